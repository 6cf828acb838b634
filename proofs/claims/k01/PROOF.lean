import PyProof.Rows.All
import Wide.All
import OpenK.AllK
import Wide.FinOn
import HandS.ForMost
import HandS.IsInst
import HandS.Property
import HandS.TupAny
import HandS.Strs
import HandS.Conv
import HandS.Defaults
import KE.GoesEnum
import HandS.Walk
import PyProof.ReprLen
import PyProof.StrLawsRepr
import PyProof.FitsInt
import KE.KRevSl
import HandS.OwnEq
import HandS.More
import KE.KOpsOwn
import KE.KCallOwn
import PyProof.InstNe
import OpenK.KMeth
import OpenK.KOps
import KE.KFmtOwn
import HandS.FStr
import HandS.ClsMeth
import HandS.MakeKwOnly
import HandS.RaiseMore
import HandS.Exc
import KE.KTryMore
import HandS.ExcInit
import HandS.ExcField
import HandS.ExcIs
import HandS.Lambda
import HandS.HotCalls
import KE.KExcIs
import HandS.Dict
import KE.DataFind
import HandS.ReplaceLit
import HandS.Style
import HandS.EndTab
import KE.KNestM
import HandS.WordsExc
import HandS.Star
import HandS.ListEq
import KE.KEqSeq
import KE.KExcInit
import HandS.ExcValue
import PySem.Challenge.RW_menuhouses_k01_constants_and_errors
set_option Elab.async false
set_option linter.all false
set_option maxRecDepth 100000
set_option maxHeartbeats 4000000
/-! Own rules beside the layer: promises that know that no repr is under way (FnG), repr of data, sorted of a tuple of texts, enumerate of a tuple, o.m(k = v). -/
namespace MH
open PySem PySem.Spec PyProof.Rows L2

/-! ### promises of defs that are called while no repr is under way -/
def FnG (P : Program) (w : World) (K : PySem.W.Frag) (mg : Str → Option Value) (base : Heap) (k : Nat) (f : Addr) (sp : Sp) : Prop :=
  ∀ (A : Around) (fr : List Env) (st : Shared) (H : Hp) (us : List Value) (vs : List V) (Q : VK), A.guards = some [] → Room k A → Env0 P w K mg base A fr st H → Vals vs us →
    sp vs H Q E0 → codeAny (model P w) A (.call (.ref f) ⟨us, []⟩) (CR CX0 fr P w H st Q E0) st

theorem guards_deeper {A : Around} {env : Env} (h : A.guards = some []) : (A.deeper env).guards = some [] := h

section
variable {P : Program} {w : World} {K : PySem.W.Frag} {mg : Str → Option Value} {base : Heap} {k : Nat} {f : Addr} {sp : Sp}
theorem FnG.mono {j : Nat} (F : FnG P w K mg base j f sp) (h : j ≤ k) : FnG P w K mg base k f sp := fun A fr st H us vs Q hg hr => F A fr st H us vs Q hg (hr.mono h)

theorem fg_of {name qual : Str} {pms : Arguments} {body : List Stmt} {sc : Scope} {dV kV doc pm cdv ct oc : Value} {an od : Option Addr} {osl : Array (Option Value)} {N ps : List Str}
    (lk : K.lookup f = some ⟨oc, od, .func (PySem.W.fnOf name qual pms body sc dV kV doc pm an cdv ct), osl⟩) (hc : PySem.W.codeIn K cdv qual = true) (S : FnScope N ps sc)
    (hB : Binds K (PySem.W.fnOf name qual pms body sc dV kV doc pm an cdv ct) ps []) (hlen : ∀ vs H Q E, sp vs H Q E → vs.length = ps.length)
    (hbd : ∀ (A : Around) (fr : List Env) (st : Shared) (H : Hp) (vs : List V) (Q : VK), A.guards = some [] → Room k (A.deeper (envOfC qual sc st.heap.objs.size f cdv)) → sp vs H Q E0 →
      ∃ t, PSs (cxOf CX0 P w K mg base N qual sc f cdv A fr st H E0).nox body t ∧ t { nx := fun _ H' => Q .non H', rt := Q } (start N vs) H) :
    FnG P w K mg base (k + 1) f sp := by
  intro A fr st H us vs Q hg hr e0 r hs
  have hl := hlen _ _ _ _ hs
  have hul : (us ++ []).length = ps.length := by
    rw [List.append_nil, ← r.length, hl]
  have KX : K.In st.heap := e0.mod.kin.keeps fun b o e => (e0.bs b o e).1
  have nl : st.heap.NoLimit := e0.mod.nolimit.keeps fun b o e => (e0.bs b o e).1
  have hk : ∀ y ∈ ps.zip us, sc.names.lookup y.1 = some .local ∨ (sc.names.lookup y.1 = some .cell ∧ ((cellsFrom (st.heap.objs.size + 1) sc.names []).lookup y.1).isSome = true) := by
    intro y hy
    rcases S.par y.1 (List.of_mem_zip hy).1 with q | q
    · exact .inl q
    · exact .inr ⟨q, PySem.W.cellsFrom_some _ _ _ (.inl q)⟩
  have hb2 := hB st us KX hul
  rw [List.append_nil] at hb2
  refine codeAny_call_function hr.depth (KX _ _ lk) rfl S.co S.gen rfl (PySem.W.codeRec_of KX hc) (hb2 _ _ _ _ ?_)
  refine wpAny_newFunctionEnv_cells S.kind hk fun env he s1 x => ?_
  subst he
  refine ⟨nl.keeps x.toInCall.keep, codeAny_func ?_⟩
  obtain ⟨t, ht, hq⟩ := hbd A fr st H vs Q hg (hr.deeper _) hs
  have J : Inv (cxOf CX0 P w K mg base N qual sc f cdv A fr st H E0) [] (start N vs) H s1 := inv_start S hr.hd e0 hl r x
  refine wpAny_mono (ht.nox.run [] s1 (start N vs) H _ J hq) (fun fl s' hz => ?_) fun e s' hz => hz
  cases fl with
  | ret u =>
    obtain ⟨v, σ', H', J', rv, q⟩ := hz
    exact ⟨v, H', J'.os, J'.bare, J'.base, J'.hok, rv, q⟩
  | next =>
    obtain ⟨σ', H', J', q⟩ := hz
    exact ⟨.non, H', J'.os, J'.bare, J'.base, J'.hok, rfl, q⟩
  | brk => exact (hz.choose_spec.choose_spec.2 : False).elim
  | cont => exact (hz.choose_spec.choose_spec.2 : False).elim

/-- the def's rule, by its text -/
theorem fun_g {x qual : Str} {st : Stmt} {fd : FuncData} {N ps : List Str} (F : Fun K x qual st f fd) (S : FnScope N ps (defScope st)) (hB : Binds K fd ps []) (hlen : ∀ vs H Q E, sp vs H Q E → vs.length = ps.length)
    (hbd : ∀ (cdv : Value) (A : Around) (fr : List Env) (s : Shared) (H : Hp) (vs : List V) (Q : VK), A.guards = some [] → Room k (A.deeper (envOfC qual (defScope st) s.heap.objs.size f cdv)) → sp vs H Q E0 →
      ∃ t, PSs (cxOf CX0 P w K mg base N qual (defScope st) f cdv A fr s H E0).nox (defBody st) t ∧ t { nx := fun _ H' => Q .non H', rt := Q } (start N vs) H) :
    FnG P w K mg base (k + 1) f sp := by
  obtain ⟨oc, od, kV, doc, pm, an, cdv, ct, osl, rfl, lk, hc⟩ := F.ex
  exact fg_of lk hc S hB hlen fun A fr s H vs Q hg hr hs => hbd cdv A fr s H vs Q hg hr hs
end

/-- a promise that holds anyway holds while no repr is under way -/
theorem FnOk.toG {P : Program} {w : World} {K : PySem.W.Frag} {mg : Str → Option Value} {base : Heap} {k : Nat} {f : Addr} {fd : FuncData} {ps : List Str} {sp : Sp} (F : FnOk P w K mg base CX0 k f fd ps sp) (hB : Binds K fd ps []) :
    FnG P w K mg base k f sp := fun A fr st H us vs Q _ hr e0 r hs => by
  have KX : K.In st.heap := e0.mod.kin.keeps fun b o e => (e0.bs b o e).1
  have hl : (us ++ []).length = ps.length := by rw [List.append_nil, ← r.length, F.len _ _ _ _ hs]
  have hb2 := hB st us KX hl
  rw [List.append_nil] at hb2
  exact F.run A fr st H ⟨us, []⟩ us vs Q E0 hr e0 hb2 r hs

section
variable {X : Cx} {k : Nat} {f : Addr} {sp : Sp} {x : Str} {p pos : Pos} {e : Expr} {es : List Expr} {t : TA}
/-- f(e, ..) -/
theorem pe_callg (F : FnG X.prog X.w X.K X.mg X.base k f sp) (hg : X.A.guards = some []) (hr : Room k X.A) (gl : Gl X x) (hm : X.mg x = some (.ref f)) (hk : PySem.W.keepIn X.K (.ref f) = true)
    (ha : PA X (e :: es) t) (hdb : (x == ("__debug__" : Str)) = false := by decide) (he : starEach (e :: es) X.env = (false, eval e X.env) :: starEach es X.env := by rfl) (hpl : (backTo pos (starEach es X.env)).any (·.1) = false := by rfl) :
    PE X (.Call (.Name x p) (e :: es) [] pos) (tCall sp [] E0 t) := by
  refine ⟨fun pins s σ H Q I h => ?_⟩
  refine wpAny_Call_Name_kw (ld_glob I gl hm ?_ hdb)
  refine PySem.W.callWith_K (h₀ := X.base) I.ok.mod.kin hk (thn (ha.run pos pins s σ H _ I h) fun us s1 ⟨vs, H1, I1, r, q⟩ => ⟨I1.kIn, ?_⟩) he hpl
  have q1 : sp vs H1 Q E0 := by
    have z : sp (vs ++ []) H1 Q E0 := q
    rw [List.append_nil] at z
    exact z
  refine wpAny_call (codeAny_mono (F X.A X.stack s1 H1 us vs Q hg hr I1.env0 r q1) fun r s' hq => ?_)
  match r, hq with
  | .ok (.ret u), hq => exact I1.after hq
  | .ok .next, hq => exact False.elim hq
  | .ok .brk, hq => exact False.elim hq
  | .ok .cont, hq => exact False.elim hq
  | .error _, hq => exact False.elim hq
end

/-! ### repr of data -/
def rRepr (K : PySem.W.Frag) : List V → Hp → VK → Prop := fun xs H Q => ∃ (a : Addr) (d : PyData), xs = [.ref a] ∧ Dp K H (.ref a) d ∧ d.showable = true ∧ d.hasDict = false ∧ d.depth ≤ 60 ∧ d.shown.length ≤ sizeLine ∧ Q (.str d.shown) H
section
variable {X : Cx}
theorem call_reprD (hg : X.A.guards = some []) (hu : X.A.units + 64 < cLine) : CallR X (.builtin "repr") (rRepr X.K) := by
  intro pins s σ H xs us Q I r h
  obtain ⟨a, d, rfl, hd, h1, h2, h3, h4, q⟩ := h
  obtain ⟨u, rfl, ru⟩ := vals1 r
  obtain ⟨as, rd⟩ := Dp.reads I d _ _ hd ru
  obtain rfl : u = Value.ref a := ru
  exact repr_of_reads' rd h1 (PyData.noDict_hsm h2) hg (by omega) (fun _ _ e => e) (fun h' u tk hk => ⟨.str d.shown, H, I.kept hk, ⟨_, rfl⟩, q⟩) h4
end

/-! ### sorted of a tuple of texts -/
section
variable {prog : Program} {w : World} {A : Around} {E : Value → Shared → Prop} {s : Shared}
theorem collect_tup {t : Addr} {us : List Value} {Q : List Value → Shared → Prop} (ht : s.heap.IsTuple t us.toArray) (hz : us.length ≤ sizeLine)
    (k : Q us { s with heap := (s.heap.push (seqObj "list" #[] 0)).update s.heap.objs.size (Obj.mapSeq (· ++ us.toArray)) }) :
    wpAny (model prog w) A (collect (.ref t)) Q E s := by
  obtain ⟨o, ho, hc, n, hd⟩ := id ht
  have new0 : ∀ x : Addr, x = s.heap.objs.size → (s.heap.push (seqObj "list" #[] 0)).get? x = some (seqObj "list" #[] 0) := fun x e => by
    rw [e]
    exact Heap.get?_push_size _ rfl
  have old : (s.heap.push (seqObj "list" #[] 0)).get? t = some o := Heap.get?_push_of_some _ ho
  unfold collect
  refine wpAny_bind (wpAny_runValue (codeAny_builtin entry_proto_collect' ?_))
  show wpAny _ _ (newList [] >>= fun l => again (.builtin "list.__iadd__" ⟨[l, .ref t], []⟩)) _ _ s
  refine wpAny_bind (wpAny_newList (wpAny_pure ⟨Code.quiet_builtin _ (by decide +kernel), codeAny_builtin entry_list_iadd' ?_⟩))
  refine (show wpAny _ _ (Builtin.List.listExtendWith (.ref s.heap.objs.size) (.ref t) (.ref s.heap.objs.size)) _ _ { s with heap := s.heap.push (seqObj "list" #[] 0) } from ?_)
  unfold Builtin.List.listExtendWith
  refine wpAny_bind (wpAny_typeOf (T := "tuple") ⟨o, old, hc⟩ ?_)
  have b2 : (Value.type "tuple" == Value.type "tuple") = true := by rfl
  rw [if_pos (by rw [b2]; simp)]
  refine wpAny_bind (listItems_at old hd ?_)
  refine wpAny_bind (listItems_at (xs := #[]) (n := 0) (new0 _ rfl) rfl ?_)
  rw [if_neg (by simp)]
  have hz2 : (#[] ++ us.toArray).size ≤ sizeLine + 1 := by
    simp only [Array.size_append, List.size_toArray, List.length_nil]
    omega
  refine wpAny_bind (listUpdate_at (xs := #[]) (n := 0) (new0 _ rfl) rfl ?_ (Nat.zero_le _) hz2)
  refine wpAny_pure ?_
  refine (show wpAny (model prog w) A (load s.heap.objs.size >>= fun o => match o.data with
      | .seq xs _ => pure xs.toList
      | _ => unsupported "internal:collect") Q E { s with heap := (s.heap.push (seqObj "list" #[] 0)).update s.heap.objs.size (Obj.mapSeq (· ++ us.toArray)) } from ?_)
  refine wpAny_bind (wpAny_load (get?_update_seq (new0 _ rfl) _) ?_)
  have e : ((#[] : Array Value) ++ us.toArray).toList = us := by simp
  refine (show wpAny _ _ (pure ((#[] : Array Value) ++ us.toArray).toList) Q E _ from ?_)
  rw [e]
  exact wpAny_pure k

theorem sorted_tup {t : Addr} {us : List Value} {ss : List Str} {Q : Value → Shared → Prop} (ht : s.heap.IsTuple t us.toArray) (hS : StrsAre us ss) (h64 : us.length < 64)
    (k : ∀ (out : Array Value) (ys : List Str), StrsAre out.toList ys → ys.Perm ss → sortedS ys = true → Q (.ref (s.heap.objs.size + 1)) { s with heap := sortedAll s.heap us out }) :
    wpAny (model prog w) A (call (.builtin "sorted") [.ref t]) Q E s := by
  refine Calls.call_function_entry kind_sorted plain_sorted entry_sorted (args_sorted1 _) ?_
  unfold Builtin.«sorted»
  refine wpAny_bind (m := checkCount "sorted" 1 1 _) (wpAny_pure ?_)
  refine wpAny_bind (collect_tup ht (small64 h64) (wpAny_bind (wpAny_newList ?_)))
  have size1 : ((s.heap.push (seqObj "list" #[] 0)).update s.heap.objs.size (Obj.mapSeq (· ++ us.toArray))).objs.size = s.heap.objs.size + 1 := by
    rw [Heap.size_update, size_push']
  have at1 : (((s.heap.push (seqObj "list" #[] 0)).update s.heap.objs.size (Obj.mapSeq (· ++ us.toArray))).push (seqObj "list" us.toArray 0)).get? (s.heap.objs.size + 1) = some (seqObj "list" us.toArray 0) := by
    rw [← size1]
    exact Heap.get?_push_size _ rfl
  refine (show wpAny _ _ _ _ _ { s with heap := ((s.heap.push (seqObj "list" #[] 0)).update s.heap.objs.size (Obj.mapSeq (· ++ us.toArray))).push (seqObj "list" us.toArray 0) } from ?_)
  rw [size1]
  refine wpAny_bind (wpAny_holding (wpAny_call_entry slot_list_sort ⟨_, at1, rfl⟩ entry_list_sort
    (list_sort_treeK strKind_oneLt at1 hS.keysOf (fun v1 v2 rest e => keyKind_strs (by rw [← e]; exact hS)) h64 fun st hp hs => ⟨_, rfl, ?_⟩) (args_list_sort _)))
  obtain ⟨ys, h1, h2, h3⟩ := sorted_out_str hS hp hs
  exact wpAny_pure ⟨_, rfl, k _ ys h1 h2 h3⟩
end
def rSortedU (K : PySem.W.Frag) : List V → Hp → VK → Prop := fun vs H Q => ∃ (a : Addr) (xs : List Str), vs = [V.ref a] ∧ SqT K H a (xs.map V.str) ∧ xs.length < 64 ∧ ∀ (ys : List Str) (p : Addr), ys.Perm xs → sortedS ys = true → H p = none → Q (.ref p) (upd H p (.lst (ys.map V.str)))
section
variable {X : Cx}
theorem cr_sortedU : CallR X (.builtin "sorted") (rSortedU X.K) := by
  intro pins s σ H vs us Q I r h
  obtain ⟨a, xs, rfl, hs, h64, q⟩ := h
  obtain ⟨its, rv, ht, _⟩ := I.tuple hs
  rw [Vals.ref1 r]
  have hl0 : xs.length = its.length := by
    have z := rv.length
    rw [List.length_map] at z
    exact z
  refine sorted_tup (s := s) ht rv.strs (hl0 ▸ h64) fun out ys h1 h2 h3 => ?_
  obtain ⟨ep, he⟩ := sortedAll_at s.heap its out
  have hz : (ys.map V.str).length ≤ sizeLine := by
    rw [List.length_map, h2.length_eq]
    exact small64 h64
  refine ⟨.ref _, upd H (s.heap.objs.size + 1) (.lst (ys.map V.str)), ?_, rfl, q ys _ h2 h3 (I.hok.fresh (Nat.le_succ _))⟩
  exact I.laid (t' := s.toks) (fun _ _ => sortedAll_old) (Nat.le_succ _) ⟨hz, out.toList, ep, vals_of_strs h1, he⟩
end

/-! ### enumerate of a tuple -/
theorem enum_tup_new {t : Addr} {items : Array Value} : Meets (Builtin.«enumerate.__new__» ⟨[.type "enumerate", .ref t], []⟩) (fun _ R s => s.heap.IsTuple t items ∧
      R (.ok (.ret (.ref (s.heap.push { cls := .type "tuple_iterator", data := .fields #[.ref t, .int 0 0] }).objs.size)))
        { s with heap := (s.heap.push { cls := .type "tuple_iterator", data := .fields #[.ref t, .int 0 0] }).push { cls := .type "enumerate", data := .fields #[.none, .bool false, .ref s.heap.objs.size, rawInt 0, .none, .none] } }) :=
  .of_wp fun prog w A R s h => by
    obtain ⟨hp, g, d, tk, os⟩ := s
    obtain ⟨hT, k⟩ := h
    have hsub := sub_enumerate
    have it : ∀ {A' : Around} {E Q : Value → Shared → Prop}, Q (.ref hp.objs.size) ⟨hp.push { cls := .type "tuple_iterator", data := .fields #[.ref t, .int 0 0] }, g, d, tk, os⟩ → wpAny (model prog w) A' (pyIter (.ref t)) Q E ⟨hp, g, d, tk, os⟩ :=
      fun q => wpAny_pyIter_tuple (items := items) hT q
    wp_walk using it
    refine wpAny_stack_any fun st => wpAny_pure ?_
    split
    · rename_i c _ _ _ _ _
      cases (c == Value.type "enumerate") <;> (wp_walk using it; exact ⟨_, rfl, k⟩)
    · wp_walk using it
      exact ⟨_, rfl, k⟩
section
variable {prog : Program} {w : World} {A : Around} {E : Value → Shared → Prop} {s : Shared}
theorem call_enum_tup {t : Addr} {items : Array Value} {Q : Value → Shared → Prop} (hT : s.heap.IsTuple t items)
    (k : ∀ h', IsEnum h' (s.heap.objs.size + 1) s.heap.objs.size 0 .none → h'.IsTupleIter s.heap.objs.size t 0 → h'.objs.size = s.heap.objs.size + 2 →
      (∀ b o, s.heap.get? b = some o → h'.get? b = some o) → Q (.ref (s.heap.objs.size + 1)) { s with heap := h' }) :
    wpAny (model prog w) A (call (.type "enumerate") [.ref t]) Q E s := by
  refine callType_new F.called_enumerate (by decide) (F.typeCall_enumerate_1 _) (F.newCall_enumerate_1 _) (fun obj => F.args_object_init_2 obj _) F.entry_enumerate_new enum_tup_new ⟨hT, ?_⟩
  have hz : (s.heap.push { cls := .type "tuple_iterator", data := .fields #[.ref t, .int 0 0] }).objs.size = s.heap.objs.size + 1 := Heap.size_push ..
  refine (show _ ∧ _ from ?_)
  rw [hz]
  have he := Heap.get?_push_size (s.heap.push { cls := .type "tuple_iterator", data := .fields #[.ref t, .int 0 0] }) (o := { cls := .type "enumerate", data := .fields #[.none, .bool false, .ref s.heap.objs.size, rawInt 0, .none, .none] }) rfl
  rw [hz] at he
  refine ⟨⟨_, he, rfl⟩, k _ he ⟨_, Heap.get?_push_of_some _ (Heap.get?_push_size _ rfl), rfl, rfl⟩ ?_ fun b o x => Heap.get?_push_of_some _ (Heap.get?_push_of_some _ x)⟩
  rw [Heap.size_push, hz]
end
theorem wpAny_pyNext_enum_none {prog : Program} {w : World} {A : Around} {E : Value → Shared → Prop} {s : Shared} {e it t : Addr} {i : Nat} {items : Array Value} {old : Value} {Q : Option Value → Shared → Prop} (hh : A.in1.handled = none) (he : IsEnum s.heap e it i old) (hit : s.heap.IsTupleIter it t i) (ht : s.heap.IsTuple t items)
    (hx : items[i]? = none) (k : ∀ h', Heap.ExtBut it s.heap h' → Q none { s with heap := h' }) : wpAny (model prog w) A (pyNext (.ref e)) Q E s := by
  have ty : s.TypeIs (.ref e) "enumerate" := ⟨_, he, rfl⟩
  unfold pyNext
  refine wpAny_bind (wpAny_attempt (wpAny_callSpecial?_slot (name := Str.ofString "__next__") ty F.slot_enumerate_next
    (wpAny_call_entry F.slot_enumerate_next ty F.entry_enumerate_next ?_ (F.args_enumerate_next_1 _))))
  refine (show wpAny _ _ (field (.ref e) 2 >>= _) _ _ _ from ?_)
  refine wpAny_bind (wpAny_field he rfl (x := .ref it) rfl ?_)
  refine wpAny_bind (wpAny_nextOf_tuple_end hh hit ht hx fun h' x eb hx' => ?_)
  obtain ⟨o, ho, hc⟩ := hx'
  refine wpAny_bind (wpAny_isInstance (T := "StopIteration") (b := true) ⟨o, ho, hc⟩ isSubtype_stop ?_)
  exact wpAny_pure (k _ eb)
/-- the tuple at a, each item in a new pair behind its index -/
def IteT (K : PySem.W.Frag) (a : Addr) : It where
  go := fun i H => ∃ xs x, SqT K H a xs ∧ xs[i]? = some x
  yld := fun i H v H' => ∃ T x, v = .ref T ∧ H T = none ∧ H' = upd H T (.tup [.int (i : Nat), x]) ∧ ∀ xs, SqT K H a xs → xs[i]? = some x
  stop := fun i H => ∃ xs, SqT K H a xs ∧ xs.length ≤ i
theorem turn_enumT {P : Program} {w : World} {K : PySem.W.Frag} {elts : List Expr} {kk : Nat} {tpos : Pos} (a e it : Addr) :
    Turn P w K (.Tuple elts kk tpos) (IteT K a) [e, it] e (fun i h => (∃ old, IsEnum h e it ((i : Nat) : Int) old) ∧ h.IsTupleIter it a i ∧ e ≠ it) where
  mem := List.mem_cons_self
  obj := by
    rintro i h ⟨⟨old, he⟩, ⟨o, ho, hc, hd⟩, _⟩ b hb
    have e' : b = e ∨ b = it := by simpa using hb
    rcases e' with rfl | rfl
    · exact ⟨_, he, fun v q => nomatch q⟩
    · refine ⟨o, ho, fun v q => ?_⟩
      rw [hd] at q
      cases q
  keep := fun i h h' st k => ⟨⟨st.1.choose, k e (by simp) _ st.1.choose_spec⟩, st.2.1.at fun o q => k it (by simp) o q, st.2.2⟩
  item := by
    intro X hP hw hK hc i pins s σ H E I hf st hg
    subst hP hw hK
    obtain ⟨⟨old, he⟩, hit, hne⟩ := st
    obtain ⟨xs, x, hq, hx⟩ := hg
    obtain ⟨its, rv, p, hz⟩ := I.tuple hq
    obtain ⟨u, hu, ru⟩ := rv.get hx
    have hel : e < s.heap.objs.size := Heap.lt_size he
    have hil : it < s.heap.objs.size := by
      obtain ⟨_, q, _⟩ := hit
      exact Heap.lt_size q
    obtain ⟨ot, hot, hct, _⟩ := id (show s.heap.IsTuple a its.toArray from p)
    have hae : e ≠ a := fun q => by
      have z : s.heap.get? e = some ot := q ▸ hot
      rw [he] at z
      cases z
      exact absurd (show Value.type "enumerate" = Value.type "tuple" from hct) (by decide)
    have hait : a ≠ it := fun q => by
      obtain ⟨o2, h2, c2, _⟩ := hit
      rw [← q, hot] at h2
      cases h2
      rw [hct] at c2
      exact absurd c2 (by decide)
    have hlt : i < its.toArray.size := by
      have := (List.getElem?_eq_some_iff.mp hu).1
      simpa using this
    have hh : X.A.in1.handled = none := I.ok.hd hc
    refine wpAny_pyNext_enum_itemD (Draws.tuple hh it a hait its.toArray) he ⟨hit, p⟩ hlt hne (by simp [hne, hae]) fun y h' tk hy ho hst hT hsz hk => ?_
    have hyu : y = u := by
      have z : its.toArray[i]? = some y := hy
      rw [List.getElem?_toArray, hu] at z
      exact (Option.some.inj z).symm
    subst hyu
    refine ⟨_, rfl, wpAny_letOwnedTupleGo_enum (s := { s with heap := h', toks := tk + 1 }) ho fun h'' he' sb => ?_⟩
    have hT2 : h''.get? s.heap.objs.size = some { cls := .type "tuple", data := .seq #[.int i tk, y] } := (sb.2 _ (Nat.ne_of_gt hel)).trans hT
    have new : ObjOk X.prog X.w (upd H s.heap.objs.size (.tup [.int (i : Nat), x])) h'' s.heap.objs.size (.tup [.int (i : Nat), x]) :=
      ⟨(by decide : 2 ≤ sizeLine), [.int i tk, y], .cons ⟨_, rfl⟩ (.cons ru .nil), ⟨_, hT2, rfl, _, rfl⟩⟩
    have I1 : Inv X pins σ (upd H s.heap.objs.size (.tup [.int (i : Nat), x])) { s with heap := h'', toks := tk + 1 } := by
      refine I.turnedNew (ch := [e, it]) (fun b ob hb q => ?_) hf (Nat.le_refl _) new
      rw [sb.2 b (fun z => hb (by simp [z]))]
      exact hk b ob (fun z => hb (by simp [z])) (fun z => hb (by simp [z])) q
    refine ⟨.ref s.heap.objs.size, _, I1, rfl, ⟨_, x, rfl, I.hok.fresh (Nat.le_refl _), rfl, fun ys hy => by rw [I.tuple_inj hy hq]; exact hx⟩, ⟨⟨y, ?_⟩, ?_, hne⟩, fun b hb => ?_⟩
    · rw [show ((i + 1 : Nat) : Int) = (i : Int) + 1 from by omega]
      exact he'
    · exact hst.1.at fun o q => (sb.2 it (Ne.symm hne)).trans q
    · have hb' : b < s.heap.objs.size := by
        have e' : b = e ∨ b = it := by simpa using hb
        rcases e' with z | z
        · rw [z]
          exact hel
        · rw [z]
          exact hil
      rw [upd_ne (Nat.ne_of_lt hb')]
      exact (hf b hb).1
  done := by
    intro X hP hw hK hc i pins s σ H E I hf st hg
    subst hP hw hK
    obtain ⟨⟨old, he⟩, hit, hne⟩ := st
    obtain ⟨xs, hq, hx⟩ := hg
    obtain ⟨its, rv, p, hz⟩ := I.tuple hq
    obtain ⟨f0, f1, f2, f3, f4, f5⟩ := hf it (by simp)
    have hh : X.A.in1.handled = none := I.ok.hd hc
    have hl := rv.length
    obtain ⟨ot, hot, hct, _⟩ := id (show s.heap.IsTuple a its.toArray from p)
    have hait : a ≠ it := fun q => by
      obtain ⟨o2, h2, c2, _⟩ := hit
      rw [← q, hot] at h2
      cases h2
      rw [hct] at c2
      exact absurd c2 (by decide)
    refine wpAny_pyNext_enum_none hh he hit p (by simp; omega) fun h' eb => ⟨rfl, I.turned (t' := s.toks) (fun b o hb q => eb b o hb q) f0 f1 f3 f4 f5⟩
  self := fun A i s Q E st h => wpAny_pyIter_enum st.1.choose_spec h
def iEnumT (K : PySem.W.Frag) (ta : TA) : TI := fun σ H R => ta σ H fun vs H1 => ∃ a xs, vs = [.ref a] ∧ SqT K H1 a xs ∧ R (IteT K a) H1
theorem pi_enumT {X : Cx} {e : Expr} {ta : TA} {p pos tpos : Pos} {elts : List Expr} {kk : Nat} (hg : Gl X "enumerate") (hm : X.mg "enumerate" = none) (ha : PA X [e] ta) (hs : starEach [e] X.env = [(false, eval e X.env)] := by rfl) :
    PI X (.Tuple elts kk tpos) (.Call (.Name "enumerate" p) [e] [] pos) (iEnumT X.K ta) := by
  refine ⟨fun pins s σ H R I h => ?_⟩
  refine Call_ (ld_blt I hg hm boot_enumerate (PyProof.Rows.callWith_type1 (thn (ha.run pos pins s σ H _ I h) fun us s1 ⟨vs, H1, I1, r1, a, xs, ex, hq, q⟩ => ?_) hs rfl))
  subst ex
  obtain ⟨u, rfl, ru⟩ := vals1 r1
  obtain rfl : u = Value.ref a := ru
  obtain ⟨its, rv, p', hz⟩ := I1.tuple hq
  refine call_enum_tup (show s1.heap.IsTuple a its.toArray from p') fun h' he hit hsz hk => wpAny_pyIter_enum he ?_
  have I2 : Inv X pins σ H1 { s1 with heap := h' } := I1.kept (t' := s1.toks) hk
  refine ⟨s1.heap.objs.size + 1, [s1.heap.objs.size + 1, s1.heap.objs.size], _, _, H1, rfl, I2, turn_enumT a (s1.heap.objs.size + 1) s1.heap.objs.size, ⟨⟨.none, he⟩, hit, Nat.succ_ne_self _⟩, fun b hb => ?_, q⟩
  have e' : b = s1.heap.objs.size + 1 ∨ b = s1.heap.objs.size := by simpa using hb
  have hle : s1.heap.objs.size ≤ b := by
    rcases e' with z | z
    · rw [z]
      exact Nat.le_succ _
    · rw [z]
      exact Nat.le_refl _
  exact I1.fpOk hle (I1.hok.fresh hle)

/-! ### o.m(k = v, ..) -/
def tMethK (C : Addr) (m : Str) (n : Nat) (sp : Sp) (gV : List V → List V → List V) (E : XK) (ta : TE) (tk : TA) : TE := fun σ H Q => ta σ H fun x H1 => ∃ a dx fs, x = .ref a ∧ H1 a = some (.ins C dx fs) ∧ fs.lookup m = none ∧
  tk σ H1 fun zs H2 => zs.length = n ∧ sp (gV [x] zs) H2 Q E
section
variable {X : Cx} {CX : CXT} {k : Nat} {C f : Addr} {fd : FuncData} {ps ks : List Str} {sp : Sp} {E : XK} {o : Expr} {m : Str} {apos pos : Pos} {kws : List Keyword} {ta : TE} {tk : TA} {g : List Value → List Value → List Value} {gV : List V → List V → List V} {pl : Sem Bool}
theorem pe_methK0 (he : PE X o ta) (c : Cls X.K C) (hm : Meth X.K C m f) (F : FnOk X.prog X.w X.K X.mg X.base CX k f fd ps sp) (hr : Room k X.A) (hb : KBn X.K fd ps 1 ks g gV) (hx : Passes CX X E) (hkw : PK X kws tk)
    (hall : (backToKw pos (keywordEach kws X.env)).all (·.1.isSome) = true := by rfl) (hks : (backToKw pos (keywordEach kws X.env)).filterMap (·.1) = ks := by rfl)
    (hpl : ((backTo pos (starEach [] X.env)).any (·.1) || (backToKw pos (keywordEach kws X.env)).any (·.1.isNone)) = false := by rfl)
    (ht : eval (.Call (.Attribute o m apos) [] kws pos) X.env = (do
      let ov ← eval o X.env
      standAt apos.atName
      let (f, first) ← holding [ov] (getMethod ov m pl)
      callWith pos f first (backTo pos (starEach [] X.env)) (backToKw pos (keywordEach kws X.env))) := by rfl) :
    PE X (.Call (.Attribute o m apos) [] kws pos) (tMethK C m ks.length sp gV E ta tk) := by
  refine ⟨fun pins s σ H Q I h => ?_⟩
  refine PySem.W.methodCall_KW (pl := pl) (thn (he.run pins s σ H _ I h) fun u s1 ⟨x, H1, I1, rx, a, dx, fs, ex, ea, l, q⟩ => ?_) ht
  subst ex
  obtain rfl : u = Value.ref a := rx
  refine getmeth_ok I1 ea c hm l ?_
  refine PySem.W.callWith_KW0 (first := [.ref a]) (h₀ := X.base) I.ok.mod.kin hm.kp hall ?_ hpl
  refine thn (hkw.run pos pins s1 σ H1 _ I1 q) fun ws s2 ⟨zs, H2, I2, rz, hz, q2⟩ => ⟨I2.kIn, ?_⟩
  rw [hks]
  have r1 : Vals [V.ref a] [Value.ref a] := .cons rfl .nil
  have r2 := hb.rel r1 rz
  refine wpAny_call (codeAny_mono (F.run X.A X.stack s2 H2 ⟨[.ref a], ks.zip ws⟩ (g [.ref a] ws) (gV [.ref a] zs) Q E hr I2.env0 (hb.to s2 [.ref a] ws I2.kIn rfl (rz.length.symm.trans hz)) r2 q2) fun r s' hq => ?_)
  match r, hq with
  | .ok (.ret u), hq => exact I2.after hq
  | .ok .next, hq => exact False.elim hq
  | .ok .brk, hq => exact False.elim hq
  | .ok .cont, hq => exact False.elim hq
  | .error e, hq => exact hx pins σ H2 s2 e s' I2 hq
end

/-! ### tuples that are known to the object: their methods -/
def TupO (H : Hp) (a : Addr) (xs : List V) : Prop := ∃ o : Obj, H a = some (.frz o (.tup xs)) ∧ o.dict = none
theorem TupO.sqt {K : PySem.W.Frag} {H : Hp} {a : Addr} {xs : List V} (h : TupO H a xs) : SqT K H a xs := .inl (.inr ⟨_, h.choose_spec.1⟩)
theorem TupO.same {H H' : Hp} {a : Addr} {xs : List V} (h : TupO H a xs) (s : ∀ b o, H b = some o → H' b = some o) : TupO H' a xs := ⟨_, s _ _ h.choose_spec.1, h.choose_spec.2⟩
/-- tuple(list): a new one; tuple(tuple): itself -/
def rTupF (K : PySem.W.Frag) : List V → Hp → VK → Prop := fun xs H Q => ∃ p ys, xs = [.ref p] ∧ ((SqL K H p ys ∧ ∀ (l : Addr) (o : Obj), H l = none → o.dict = none → Q (.ref l) (upd H l (.frz o (.tup ys)))) ∨ (SqT K H p ys ∧ Q (.ref p) H))
def tTupM (r : V → List V → Hp → VK → Prop) (to : TE) (t : TA) : TE := fun σ H Q => to σ H fun x H1 => (∃ a xs, x = .ref a ∧ TupO H1 a xs) ∧ t σ H1 fun vs H2 => r x vs H2 Q
section
variable {X : Cx} {o e : Expr} {es : List Expr} {to : TE} {t : TA} {name : Str} {apos cpos : Pos} {id : String} {r : V → List V → Hp → VK → Prop}
theorem call_tupF : CallR X (.type "tuple") (rTupF X.K) := by
  intro pins s σ H xs us Q I r h
  obtain ⟨p, ys, rfl, h⟩ := h
  obtain ⟨u, rfl, rx⟩ := vals1 r
  obtain rfl : u = Value.ref p := rx
  rcases h with ⟨hq, q⟩ | ⟨hq, q⟩
  · obtain ⟨its, rv, pl, hz⟩ := I.list hq
    have hl := rv.length
    refine call_tuple_list pl.isList (fun h' kp => ?_) (by simp only [List.size_toArray]; omega)
    have I1 : Inv X pins σ H { s with heap := h' } := I.kept (t' := s.toks) kp
    have at1 := Heap.get?_push_size h' (o := { cls := .type "tuple", data := .seq its.toArray }) rfl
    have I2 : Inv X pins σ (upd H h'.objs.size (.frz { cls := .type "tuple", data := .seq its.toArray } (.tup ys))) { s with heap := h'.push { cls := .type "tuple", data := .seq its.toArray } } :=
      I1.laid (t' := s.toks) (fun b o e => Heap.get?_push_of_some _ e) (Nat.le_refl _) ⟨at1, hz, its, rv, IsTup.new _ _⟩
    exact ⟨.ref h'.objs.size, _, I2, rfl, q _ _ (I1.hok.fresh (Nat.le_refl _)) rfl⟩
  · obtain ⟨its, rv, pl, hz⟩ := I.tuple hq
    exact call_tuple_same pl ⟨.ref p, H, I, rfl, q⟩
theorem pe_tupM (slot : Slot "tuple" name id) (hty : typeOf (.builtin id) = pure (.type "method_descriptor")) (hm : MtR X id r) (ho : PE X o to) (ha : PA X (e :: es) t)
    (hbase : attributeBase o name X.env (eval o X.env) = eval o X.env := by rfl)
    (hfew : ((backTo cpos (starEach (e :: es) X.env)).all (fun x => !x.1) && (backToKw cpos (keywordEach [] X.env)).all (fun x => x.1.isSome)
      && decide ((e :: es).length + ([] : List Keyword).length + (if ([] : List Keyword).isEmpty then 0 else 1) < 30)) = true := by rfl)
    (hline : (apos.endLine == cpos.line) = true := by rfl) (hs : starEach (e :: es) X.env = (false, eval e X.env) :: starEach es X.env := by rfl) (hp : (backTo cpos (starEach es X.env)).any (·.1) = false := by rfl) :
    PE X (.Call (.Attribute o name apos) (e :: es) [] cpos) (tTupM r to t) := by
  refine ⟨fun pins s σ H Q I h => ?_⟩
  refine wpAny_Call_method_late hbase hfew hline rfl (thn (ho.run pins s σ H _ I h) fun v s1 ⟨x, H1, I1, r1, ⟨a, xs, ex, ob, ea, ed⟩, q1⟩ => ?_)
  subst ex
  obtain rfl : v = Value.ref a := r1
  obtain ⟨g1, _, _, _, og, hog, hcg, _⟩ := (show ObjOk X.prog X.w H1 s1.heap a (.frz ob (.tup xs)) from I1.hok a _ ea)
  refine ⟨"tuple", id, PySem.F.plainAttrs_tuple, slot, hty, ⟨og, hog, hcg⟩, fun b hb => ?_, ?_⟩
  · cases hb
    exact ⟨ob, g1, ed⟩
  · have hA := ha.run cpos pins s1 σ H1 _ I1 q1
    rw [hs] at hA ⊢
    refine Calls.callWith_builtin (show (false || (backTo cpos (starEach es X.env)).any (·.1)) = false from by rw [hp]; rfl) (Calls.evalArgs_plain ?_)
    exact thn hA fun us s2 ⟨vs, H2, I2, r2, q2⟩ => hm pins s2 σ H2 (.ref a) vs (.ref a) us Q I2 rfl r2 q2
end

/-! ### the end of a law whose def is promised while no repr is under way -/
theorem law_callg {P : Program} {w : World} {K : PySem.W.Frag} {mg mb : Str → Option Value} {k : Nat} {fa a : Addr} {sp : Sp} {st : Shared} {us : List Value} {ns : List Int}
    (KX : K.In st.heap) (hn : st.heap.Ns mainGlobals mg) (hb : st.heap.Ns builtinsNs mb) (hbb : ∀ x : Str, x ≠ "__name__" → mb x = bootBuiltins x) (nl : st.heap.NoLimit) (hgens : st.gens = #[])
    (ha : st.heap.get? a = some { cls := .type "list", data := .seq us.toArray }) (hi : IntsAre us ns) (hz : ns.length ≤ sizeLine) (hr : Room k callerA)
    (F : ∀ base : Heap, K.In base → base.Ns mainGlobals mg → FnG P w K mg base k fa sp)
    (hsp : ∀ H : Hp, SqL K H a (ns.map V.int) → sp [.ref a] H (fun v _ => v = .bl true) E0) :
    codeAny (model P w) callerA (.call (.ref fa) ⟨[.ref a], []⟩) (fun r s' => r = .ok (.ret (.bool true)) ∧ OldK st.heap s'.heap ∧ s'.os = st.os ∧ AllBare s'.gens) st := by
  have rv := vals_ints hi
  have hlen := hi.length
  have key : ∀ H : Hp, Only H → SqL K H a (ns.map V.int) → HOk P w H st.heap → (∀ b, H b ≠ none → b = a) → (H a ≠ none → K.lookup a = none) →
      codeAny (model P w) callerA (.call (.ref fa) ⟨[.ref a], []⟩) (fun r s' => r = .ok (.ret (.bool true)) ∧ OldK st.heap s'.heap ∧ s'.os = st.os ∧ AllBare s'.gens) st := by
    intro H hO hS hok hA hK
    have offD : ∀ {b : Addr} {o : Obj} {es : Array DictEntry} {ep : Nat}, st.heap.get? b = some o → o.data = .dict es ep → H b = none := by
      intro b o es ep e d
      cases q : H b with
      | none => rfl
      | some v =>
        obtain rfl : b = a := hA b (by rw [q]; simp)
        rw [ha] at e
        cases e
        exact nomatch d
    have offK : ∀ {b : Addr} {o : Obj}, K.lookup b = some o → H b = none := by
      intro b o e
      cases q : H b with
      | none => rfl
      | some v =>
        obtain rfl : b = a := hA b (by rw [q]; simp)
        rw [hK (by rw [q]; simp)] at e
        cases e
    have toNs : ∀ {b : Addr} {m : Str → Option Value}, st.heap.Ns b m → (hidT st.heap H).Ns b m := fun ⟨o, es, ep, e, d, r⟩ => ⟨o, es, ep, hidT_get e (offD e d), d, r⟩
    have kb : K.In (hidT st.heap H) := fun b o e => hidT_get (KX b o e) (offK e)
    obtain ⟨mc, l1, l2⟩ := nl
    have M : Mod K mg (hidT st.heap H) := ⟨kb, toNs hn, ⟨mb, toNs hb, hbb⟩, ⟨mc, toNs l1, l2⟩⟩
    have e0 : Env0 P w K mg (hidT st.heap H) callerA [] st H :=
      ⟨rfl, M, fun b o e => of_hidT e, Nat.le_of_eq (hidT_size _ _), trivial, fun b hb => absurd (show b ∈ ([] : List Addr) from hb) (by simp), hok, .of_eq hgens⟩
    refine codeAny_mono (F _ kb (toNs hn) callerA [] st H [.ref a] [.ref a] _ rfl hr e0 (.cons rfl .nil) (hsp H hS)) fun r s' h => ?_
    match r, h with
    | .error e, h => exact h.elim
    | .ok .next, h => exact h.elim
    | .ok .brk, h => exact h.elim
    | .ok .cont, h => exact h.elim
    | .ok (.ret u), h =>
      obtain ⟨v, H', os, bare, un, hok', rr, q⟩ := h
      obtain rfl : v = .bl true := q
      obtain rfl : u = Value.bool true := rr
      refine ⟨rfl, OldK.of_keep fun b o e => ?_, os, bare⟩
      cases q : H b with
      | none => exact un.keep b o e q (fun z => absurd (show b ∈ ([] : List Addr) from z) (by simp)) (by simp)
      | some v =>
        rcases hO b with z | ⟨ob, xs, z⟩
        · rw [q] at z
          cases z
        · obtain ⟨g1, _⟩ := hok b _ z
          obtain ⟨g2, _⟩ := hok' b _ (un.frzs b ob _ z)
          rw [e] at g1
          cases g1
          exact g2
  cases hk : K.lookup a with
  | some o =>
    have e := KX a o hk
    rw [ha] at e
    cases e
    refine key (fun _ => none) (fun _ => .inl rfl) (.inr ⟨_, us.toArray, _, hk, rfl, rfl, rfl, ?_, by simpa using rv⟩) (fun b u z => nomatch z) (fun b z => absurd rfl z) fun z => absurd rfl z
    rw [List.size_toArray, hlen]
    exact hz
  | none =>
    let T : HO := .frz { cls := .type "list", data := .seq us.toArray } (.lst (ns.map V.int))
    refine key (fun b => if b = a then some T else none) (fun b => ?_) (.inl (.inr ⟨_, if_pos rfl⟩)) (fun b u z => ?_) (fun b z => ?_) fun _ => hk
    · by_cases hb : b = a
      · exact .inr ⟨_, _, if_pos hb⟩
      · exact .inl (if_neg hb)
    · by_cases hb : b = a
      · subst hb
        have z' := (if_pos rfl).symm.trans z
        cases z'
        exact ⟨ha, by rw [List.length_map]; exact hz, us, _, rv, ha⟩
      · have z' := (if_neg hb).symm.trans z
        cases z'
    · by_cases hb : b = a
      · exact hb
      · exact absurd (if_neg hb) z

theorem walk_g {l : PySem.W.OpenLaw} {n k : Nat} {q : Program} {loose : List Str} {XP : (Str → Option Value) → Heap → Prop} {YP : World → Heap → Prop} {d : DefRec} {K : Params → PySem.W.Frag} {sp : PySem.W.Frag → Sp}
    (hn : l.most = some n) (hn2 : n ≤ sizeLine) (hdf : d.params.defaults = []) (hr : Room k callerA) (hY : ∀ (w : World) (h : Heap), YP w h → (K w.params).In h)
    (F : ∀ (w : World) (mg : Str → Option Value) (fa : Addr) (h : Heap), (K w.params).In h → h.Ns mainGlobals mg → mg d.name = some (.ref fa) →
      ∀ base : Heap, (K w.params).In base → base.Ns mainGlobals mg → FnG l.prog w (K w.params) mg base k fa (sp (K w.params)))
    (hsp : ∀ (K : PySem.W.Frag) (H : Hp) (a : Addr) (ns : List Int), ns.length ≤ n → SqL K H a (ns.map V.int) → sp K [.ref a] H (fun v _ => v = .bl true) E0) :
    PySem.W.WalkO q loose XP YP l.row.toRowW d [] (fun f vs => PySem.call f vs) := by
  refine Att.attach_call hn hdf fun w s₀ s₁ mg mb fa o pm cd doc a vs ns G Y ho hd hcd hmg hobj hints hlen hg => ?_
  have KX := hY w _ Y
  exact law_callg KX G.T.g G.T.b G.T.builtins G.T.nolimit hg hobj hints (Nat.le_trans hlen hn2) hr (F w mg fa _ KX G.T.g hmg) fun H hS => hsp _ H a ns hlen hS
end MH
/-! The mathematics: texts in order, names, menus. -/
namespace MH
open PySem PySem.Spec PyProof.Rows L2

/-! ### the order of texts -/
def ltS (x y : Str) : Prop := x.cps.toList < y.cps.toList
instance (x y : Str) : Decidable (ltS x y) := inferInstanceAs (Decidable (x.cps.toList < y.cps.toList))
theorem lst_lt_irrefl : ∀ a : List Nat, ¬ a < a := fun a h => List.lt_irrefl a h
theorem ltS_irrefl (x : Str) : ¬ ltS x x := lst_lt_irrefl _
theorem ltS_trans {x y z : Str} (a : ltS x y) (b : ltS y z) : ltS x z := List.lt_trans a b
theorem ltS_tri (x y : Str) : ltS x y ∨ x = y ∨ ltS y x := by
  by_cases h : ltS x y
  · exact .inl h
  · by_cases h2 : ltS y x
    · exact .inr (.inr h2)
    · refine .inr (.inl ?_)
      have e : x.cps.toList = y.cps.toList := List.le_antisymm (List.not_lt.mp h2) (List.not_lt.mp h)
      exact Str.ext' (Array.toList_inj.mp e)
theorem risingS_pw : ∀ (p : Str) (l : List Str), risingS p l = true → l.Pairwise (fun a b => ¬ ltS b a) ∧ ∀ x ∈ l, ¬ ltS x p
  | p, [], _ => ⟨List.Pairwise.nil, fun _ h => nomatch h⟩
  | p, x :: r, h => by
    have h' : (!ltCps x.cps.toList p.cps.toList && risingS x r) = true := h
    rw [Bool.and_eq_true, ltCps_eq] at h'
    obtain ⟨h1, h2⟩ := h'
    obtain ⟨q1, q2⟩ := risingS_pw x r h2
    have n1 : ¬ ltS x p := by
      intro z
      rw [decide_eq_true (show x.cps.toList < p.cps.toList from z)] at h1
      cases h1
    refine ⟨List.Pairwise.cons (fun y hy => q2 y hy) q1, fun y hy => ?_⟩
    rcases List.mem_cons.mp hy with rfl | hy
    · exact n1
    · intro z
      rcases ltS_tri x p with a | a | a
      · exact n1 a
      · subst a
        exact q2 y hy z
      · exact q2 y hy (ltS_trans z a)
theorem sortedS_pw : ∀ {l : List Str}, sortedS l = true → l.Pairwise (fun a b => ¬ ltS b a)
  | [], _ => List.Pairwise.nil
  | x :: r, h => List.Pairwise.cons (risingS_pw x r h).2 (risingS_pw x r h).1
/-- two arrangements in order of the same texts are one -/
theorem sorted_one {l m : List Str} (p : l.Perm m) (hl : sortedS l = true) (hm : sortedS m = true) : l = m :=
  p.eq_of_pairwise (fun a b _ _ h1 h2 => by
    rcases ltS_tri a b with z | z | z
    · exact absurd z h2
    · exact z
    · exact absurd z h1) (sortedS_pw hl) (sortedS_pw hm)
/-- in order and none twice: each before the next -/
theorem sorted_lt {l : List Str} (hn : l.Nodup) (h : sortedS l = true) : l.Pairwise ltS := by
  have a := sortedS_pw h
  have b : l.Pairwise (fun x y => x ≠ y) := hn
  refine (List.pairwise_and_iff.mpr ⟨a, b⟩).imp fun {x y} z => ?_
  rcases ltS_tri x y with q | q | q
  · exact q
  · exact absurd q z.2
  · exact absurd q z.1

/-! ### names -/
def letters : Str := "abcdefghijklmnopqrstuvwxyz"
def digits : Str := "0123456789"
def isL (c : Nat) : Bool := decide (c ∈ letters.cps.toList)
def isD (c : Nat) : Bool := decide (c ∈ digits.cps.toList)
def nameOk (z : Str) : Bool := decide (1 ≤ z.length) && (decide (z.length ≤ 8) && (isL (z.cps.toList.getD 0 0) && z.cps.toList.all fun c => isL c || isD c))
def pool : List Str := ["a", "a0", "aa", "ab", "b", "b9", "ba", "c", "d", "k1", "q", "zz", "zzzzzzzz"]
theorem pool_ok : ∀ z ∈ pool, nameOk z = true := by decide +kernel
theorem pool_nd : pool.Nodup := by decide +kernel

/-! ### menus -/
def menusUp (l : List Str) : List (List Str) := l.foldl (fun acc x => acc ++ acc.map (· ++ [x])) [[]]
theorem menusUp_snoc (l : List Str) (x : Str) : menusUp (l ++ [x]) = menusUp l ++ (menusUp l).map (· ++ [x]) := by
  unfold menusUp
  rw [List.foldl_append]
  rfl
theorem foldl_head (f : List (List Str) → Str → List (List Str)) (hf : ∀ a r x, ∃ r', f (a :: r) x = a :: r') : ∀ (l : List Str) (a : List Str) (r : List (List Str)), ∃ r', l.foldl f (a :: r) = a :: r'
  | [], a, r => ⟨r, rfl⟩
  | x :: l, a, r => by
    obtain ⟨r', e⟩ := hf a r x
    rw [List.foldl_cons, e]
    exact foldl_head f hf l a r'
theorem menusUp_sub : ∀ (n : Nat) (l : List Str), l.length = n → ∀ c ∈ menusUp l, c.Sublist l
  | 0, l, h, c, hc => by
    obtain rfl : l = [] := List.length_eq_zero_iff.mp h
    obtain rfl : c = [] := by simpa [menusUp] using hc
    exact List.Sublist.refl _
  | n + 1, l, h, c, hc => by
    obtain ⟨m, x, rfl⟩ : ∃ m x, l = m ++ [x] := ⟨l.dropLast, l.getLast (by intro e; rw [e] at h; cases h), (List.dropLast_concat_getLast _).symm⟩
    rw [menusUp_snoc, List.mem_append, List.mem_map] at hc
    have hm : m.length = n := by
      rw [List.length_append] at h
      exact Nat.succ.inj h
    rcases hc with hc | ⟨d, hd, rfl⟩
    · exact (menusUp_sub n m hm c hc).trans (List.sublist_append_left _ _)
    · exact (menusUp_sub n m hm d hd).append (List.Sublist.refl _)
/-- all menus but the empty one -/
def menusOf (l : List Str) : List (List Str) := (menusUp l).tail
theorem menusUp_len : ∀ (n : Nat) (l : List Str), l.length = n → (menusUp l).length = 2 ^ n
  | 0, l, h => by
    obtain rfl : l = [] := List.length_eq_zero_iff.mp h
    rfl
  | n + 1, l, h => by
    obtain ⟨m, x, rfl⟩ : ∃ m x, l = m ++ [x] := ⟨l.dropLast, l.getLast (by intro e; rw [e] at h; cases h), (List.dropLast_concat_getLast _).symm⟩
    have hm : m.length = n := by
      rw [List.length_append] at h
      exact Nat.succ.inj h
    rw [menusUp_snoc, List.length_append, List.length_map, menusUp_len n m hm, Nat.pow_succ]
    omega
theorem menusUp_ne : ∀ (n : Nat) (l : List Str), l.length = n → ∃ r, menusUp l = [] :: r ∧ ∀ c ∈ r, c ≠ []
  | 0, l, h => by
    obtain rfl : l = [] := List.length_eq_zero_iff.mp h
    exact ⟨[], rfl, fun _ h => nomatch h⟩
  | n + 1, l, h => by
    obtain ⟨m, x, rfl⟩ : ∃ m x, l = m ++ [x] := ⟨l.dropLast, l.getLast (by intro e; rw [e] at h; cases h), (List.dropLast_concat_getLast _).symm⟩
    have hm : m.length = n := by
      rw [List.length_append] at h
      exact Nat.succ.inj h
    obtain ⟨r, e, hr⟩ := menusUp_ne n m hm
    refine ⟨r ++ (menusUp m).map (· ++ [x]), by rw [menusUp_snoc, e]; rfl, fun c hc => ?_⟩
    rcases List.mem_append.mp hc with hc | hc
    · exact hr c hc
    · obtain ⟨d, _, rfl⟩ := List.mem_map.mp hc
      simp
theorem menusOf_ok {l c : List Str} (h : c ∈ menusOf l) : c ≠ [] ∧ c.Sublist l := by
  obtain ⟨r, e, hr⟩ := menusUp_ne l.length l rfl
  have h' : c ∈ (menusUp l).tail := h
  refine ⟨?_, menusUp_sub l.length l rfl c (List.mem_of_mem_tail h')⟩
  rw [e] at h'
  exact hr c h'
end MH
/-! Data as repr shows it: its length, and what == and repr ask. -/
namespace MH
open PySem PySem.Spec PyProof.Rows L2
mutual
def cost : PyData → Nat
  | .none => 4
  | .bool _ => 5
  | .int _ => 101
  | .str x => 10 * x.length + 2
  | .list xs => costAll xs + 3
  | .tuple xs => costAll xs + 3
  | .dict _ => 0
def costAll : List PyData → Nat
  | [] => 0
  | x :: xs => cost x + 2 + costAll xs
end
mutual
def okD : PyData → Bool
  | .none => true
  | .bool _ => true
  | .int i => decide (i.natAbs < 10 ^ 100)
  | .str x => PyData.strOk x
  | .list xs => okDs xs
  | .tuple xs => okDs xs
  | .dict _ => false
def okDs : List PyData → Bool
  | [] => true
  | x :: xs => okD x && okDs xs
end
theorem strOk_lt {x : Str} (h : PyData.strOk x = true) : ∀ c ∈ x.cps.toList, c < 16 ^ 8 := by
  intro c hc
  unfold PyData.strOk at h
  rw [← Array.all_toList, List.all_eq_true] at h
  have := of_decide_eq_true (h c hc)
  omega
theorem okDs_len (xs : List PyData) : xs.length * 2 ≤ costAll xs := by
  induction xs with
  | nil => exact Nat.le_refl _
  | cons x xs ih =>
    show (xs.length + 1) * 2 ≤ cost x + 2 + costAll xs
    omega
mutual
theorem shown_le : ∀ d : PyData, okD d = true → d.shown.length ≤ cost d
  | .none, _ => by decide +kernel
  | .bool true, _ => by decide +kernel
  | .bool false, _ => by decide +kernel
  | .int i, h => by
    have q := int_text_length_le10 (k := 100) (by decide) (of_decide_eq_true (show decide (i.natAbs < 10 ^ 100) = true from h))
    show (Str.ofString (toString i)).length ≤ 101
    rw [PySem.ofString_length]
    exact q
  | .str x, h => by
    rw [PyData.shown]
    exact StrLaws.reprText_len x (strOk_lt h)
  | .list xs, h => by
    have q := shownAll_le xs h
    have q2 := listText_len_le (PyData.shownAll xs)
    rw [PyData.shown]
    show _ ≤ costAll xs + 3
    omega
  | .tuple xs, h => by
    have q := shownAll_le xs h
    have q2 := tupleText_len_le (PyData.shownAll xs)
    rw [PyData.shown]
    show _ ≤ costAll xs + 3
    omega
  | .dict _, h => nomatch h
theorem shownAll_le : ∀ xs : List PyData, okDs xs = true → ((PyData.shownAll xs).map (·.length)).sum + 2 * (PyData.shownAll xs).length ≤ costAll xs
  | [], _ => by simp [PyData.shownAll]
  | x :: xs, h => by
    have h' : (okD x && okDs xs) = true := h
    rw [Bool.and_eq_true] at h'
    have a := shown_le x h'.1
    have b := shownAll_le xs h'.2
    rw [PyData.shownAll, List.map_cons, List.sum_cons, List.length_cons]
    show _ ≤ cost x + 2 + costAll xs
    omega
end
mutual
theorem ok_show : ∀ d : PyData, okD d = true → d.showable = true
  | .none, _ => by simp only [PyData.showable]
  | .bool _, _ => by simp only [PyData.showable]
  | .int i, h => by
    have q := of_decide_eq_true (show decide (i.natAbs < 10 ^ 100) = true from h)
    rw [PyData.showable]
    refine decide_eq_true ?_
    by_cases z : i.natAbs = 0
    · rw [z]
      decide
    · rw [Nat.log2_lt z]
      exact Nat.lt_of_lt_of_le q (by decide +kernel)
  | .str _, _ => by simp only [PyData.showable]
  | .list xs, h => by
    rw [PyData.showable]
    exact ok_showAll xs h
  | .tuple xs, h => by
    rw [PyData.showable]
    exact ok_showAll xs h
  | .dict _, h => nomatch h
theorem ok_showAll : ∀ xs : List PyData, okDs xs = true → PyData.showableAll xs = true
  | [], _ => by simp only [PyData.showableAll]
  | x :: xs, h => by
    have h' : (okD x && okDs xs) = true := h
    rw [Bool.and_eq_true] at h'
    rw [PyData.showableAll, ok_show x h'.1, ok_showAll xs h'.2]
    rfl
end
mutual
theorem ok_lay : ∀ d : PyData, okD d = true → d.canLay0 = true
  | .none, _ => by simp only [PyData.canLay0]
  | .bool _, _ => by simp only [PyData.canLay0]
  | .int _, _ => by simp only [PyData.canLay0]
  | .str x, h => by
    rw [PyData.canLay0]
    exact h
  | .list xs, h => by
    rw [PyData.canLay0]
    exact ok_layAll xs h
  | .tuple xs, h => by
    rw [PyData.canLay0]
    exact ok_layAll xs h
  | .dict _, h => nomatch h
theorem ok_layAll : ∀ xs : List PyData, okDs xs = true → PyData.canLayAll0 xs = true
  | [], _ => by simp only [PyData.canLayAll0]
  | x :: xs, h => by
    have h' : (okD x && okDs xs) = true := h
    rw [Bool.and_eq_true] at h'
    rw [PyData.canLayAll0, ok_lay x h'.1, ok_layAll xs h'.2]
    rfl
end
/-- what repr of data asks -/
structure ShowOk (K : PySem.W.Frag) (H : Hp) (a : Addr) (d : PyData) : Prop where
  dp : Dp K H (.ref a) d
  sh : d.showable = true
  nd : d.hasDict = false
  dep : d.depth ≤ 60
  len : d.shown.length ≤ sizeLine
theorem show_of {K : PySem.W.Frag} {H : Hp} {a : Addr} {d : PyData} (h : Dp K H (.ref a) d) (ok : okD d = true) (h1 : d.depth ≤ 60) (h2 : cost d ≤ 100000) : ShowOk K H a d :=
  ⟨h, ok_show d ok, PyData.hasDict_of_canLay d (ok_lay d ok), h1, Nat.le_trans (shown_le d ok) (Nat.le_trans h2 (by decide))⟩
theorem shaped_of {d : PyData} (ok : okD d = true) (h : d.depth ≤ 64) : SeqAt.shaped d = true := by
  unfold SeqAt.shaped
  rw [ok_lay d ok, decide_eq_true h]
  rfl
/-! texts in a row -/
theorem okDs_strs {ss : List Str} (h : ∀ z ∈ ss, PyData.strOk z = true) : okDs (ss.map PyData.str) = true := by
  induction ss with
  | nil => rfl
  | cons z r ih =>
    show (PyData.strOk z && okDs (r.map PyData.str)) = true
    rw [h z List.mem_cons_self, ih fun y hy => h y (List.mem_cons_of_mem _ hy)]
    rfl
theorem costAll_strs {ss : List Str} {n : Nat} (h : ∀ z ∈ ss, z.length ≤ n) : costAll (ss.map PyData.str) ≤ ss.length * (10 * n + 4) := by
  induction ss with
  | nil => exact Nat.zero_le _
  | cons z r ih =>
    show 10 * z.length + 2 + 2 + costAll (r.map PyData.str) ≤ (r.length + 1) * (10 * n + 4)
    have a := h z List.mem_cons_self
    have b := ih fun y hy => h y (List.mem_cons_of_mem _ hy)
    rw [Nat.add_mul]
    omega
theorem depth_strs : ∀ ss : List Str, PyData.depthAll (ss.map PyData.str) = 0
  | [] => by rw [List.map_nil, PyData.depthAll]
  | z :: r => by rw [List.map_cons, PyData.depthAll, depth_strs r, PyData.depth]; rfl
theorem dp_strs {K : PySem.W.Frag} {H : Hp} : ∀ ss : List Str, DpAll K H (ss.map V.str) (ss.map PyData.str)
  | [] => .nil
  | z :: r => .cons (.str z) (dp_strs r)
theorem isL_le {c : Nat} (h : isL c = true) : c < 128 := by
  have q : ∀ c ∈ letters.cps.toList, c < 128 := by decide +kernel
  exact q c (of_decide_eq_true h)
theorem isD_le {c : Nat} (h : isD c = true) : c < 128 := by
  have q : ∀ c ∈ digits.cps.toList, c < 128 := by decide +kernel
  exact q c (of_decide_eq_true h)
theorem nameOk_len {z : Str} (h : nameOk z = true) : z.length ≤ 8 := by
  unfold nameOk at h
  simp only [Bool.and_eq_true, decide_eq_true_eq] at h
  exact h.2.1
theorem nameOk_str {z : Str} (h : nameOk z = true) : PyData.strOk z = true := by
  unfold nameOk at h
  simp only [Bool.and_eq_true, decide_eq_true_eq] at h
  have q := h.2.2.2
  rw [List.all_eq_true] at q
  unfold PyData.strOk
  rw [← Array.all_toList, List.all_eq_true]
  intro c hc
  refine decide_eq_true ?_
  have w := q c hc
  rw [Bool.or_eq_true] at w
  rcases w with w | w
  · have := isL_le w
    omega
  · have := isD_le w
    omega
end MH
/-! A tuple taken from the back: t[::-1]. -/
namespace MH
open PySem PySem.Spec PyProof.Rows L2 PySem.SeqAt HT
section
variable {prog : Program} {w : World} {A : Around} {E : Value → Shared → Prop} {s : Shared}
theorem applied_back {sl : Addr} {vk : Value} {n : Nat} {Q : Int × Int × Nat → Shared → Prop} (hs : s.heap.IsSliceOf sl .none .none vk) (pk : IsPart vk (some (-1)))
    (h : Q ((n : Int) - 1, -1, n) s) : wpAny (model prog w) A (Builtin.Slice.sliceApplied (.ref sl) (pure (n : Int))) Q E s := by
  obtain ⟨os, hos, hcs, hds⟩ := id hs
  unfold Builtin.Slice.sliceApplied Builtin.Slice.sliceFields
  refine wpAny_bind (wpAny_bind (wpAny_field hos hds (x := .none) rfl (wpAny_bind (wpAny_field hos hds (x := .none) rfl (wpAny_bind (wpAny_field hos hds (x := vk) rfl (wpAny_pure ?_)))))))
  refine wpAny_bind (slicePart_ pk ?_)
  show wpAny _ _ (if ((-1 : Int) == 0) = true then _ else _) _ _ s
  rw [if_neg (by decide)]
  refine wpAny_bind (slicePart_none (wpAny_bind (slicePart_none (wpAny_bind (wpAny_pure ?_)))))
  have e : Builtin.Slice.sliceAdjust none none (-1) (n : Int) = ((n : Int) - 1, -1) := by
    unfold Builtin.Slice.sliceAdjust
    simp
  show wpAny _ _ (match Builtin.Slice.sliceAdjust none none (-1) (n : Int) with | (lo, hi) => pure (lo, (-1 : Int), Builtin.Slice.slicePlaces lo hi (-1))) _ _ s
  rw [e]
  have e2 : Builtin.Slice.slicePlaces ((n : Int) - 1) (-1) (-1) = n := by
    unfold Builtin.Slice.slicePlaces
    simp
    try omega
  show wpAny _ _ (pure ((n : Int) - 1, (-1 : Int), Builtin.Slice.slicePlaces ((n : Int) - 1) (-1) (-1))) _ _ s
  rw [e2]
  exact wpAny_pure h
theorem filter_congr {α β : Type} {f g : α → Option β} : ∀ {l : List α}, (∀ x ∈ l, f x = g x) → l.filterMap f = l.filterMap g
  | [], _ => rfl
  | x :: l, h => by
    rw [List.filterMap_cons, List.filterMap_cons, h x List.mem_cons_self, filter_congr fun y hy => h y (List.mem_cons_of_mem _ hy)]
theorem pick_back (xs : Array Value) : ((List.range xs.size).filterMap fun (m : Nat) => xs[((xs.size : Int) - 1 + (m : Int) * (-1)).toNat]?).toArray = xs.toList.reverse.toArray := by
  have e : (List.range xs.size).filterMap (fun (m : Nat) => xs[((xs.size : Int) - 1 + (m : Int) * (-1)).toNat]?) = ((List.range xs.size).map (fun k => xs.size - 1 - k)).filterMap (xs[·]?) := by
    rw [List.filterMap_map]
    refine filter_congr fun m hm => ?_
    have := List.mem_range.mp hm
    have e2 : ((xs.size : Int) - 1 + (m : Int) * (-1)).toNat = xs.size - 1 - m := by omega
    rw [e2]
    rfl
  rw [e, PySem.W.krv_range, List.filterMap_reverse, PySem.W.krv_all]
theorem getItem_back {t sl : Addr} {items : Array Value} {vk : Value} {Q : Value → Shared → Prop} (ht : IsTup s.heap t items) (hs : s.heap.IsSliceOf sl .none .none vk) (pk : IsPart vk (some (-1)))
    (h : Q (.ref s.heap.objs.size) { s with heap := s.heap.push { cls := .type "tuple", data := .seq items.toList.reverse.toArray } })
    (hsz : items.size ≤ sizeLine) : wpAny (model prog w) A (getItem (.ref t) (.ref sl)) Q E s := by
  have htake : sizeOk (.seq items.toList.reverse.toArray) := by
    show items.toList.reverse.toArray.size ≤ sizeLine
    rw [List.size_toArray, List.length_reverse, Array.length_toList]
    exact hsz
  obtain ⟨os, hos, hcs, hds⟩ := id hs
  have hTs : s.TypeIs (.ref sl) "slice" := ⟨os, hos, hcs⟩
  unfold getItem
  try with_reducible refine wpAny_holding ?_
  first | refine wpAny_bind (wpAny_pure ?_) | skip
  refine wpAny_bind (wpAny_sequenceKey ht.typeIs (by decide) ?_)
  refine wpAny_bind (wpAny_callSpecial?_slot (name := Str.ofString "__getitem__") ht.typeIs PyProof.Rows.slot_tuple_getitem
    (wpAny_call_entry PyProof.Rows.slot_tuple_getitem ht.typeIs entry_tuple_getitem ?_ (args_tuple_getitem _ _)))
  show wpAny _ _ (Builtin.Tuple.tupleItemsOf (.ref t) >>= _) _ _ s
  refine wpAny_bind (tupleItemsOf_ ht ?_)
  refine wpAny_bind (wpAny_typeOf hTs ?_)
  rw [if_pos (by decide)]
  refine wpAny_bind (applied_back hs pk ?_)
  have hno : ¬ (((items.size : Int) - 1 == 0 && (-1 : Int) == 1 && items.size == items.size) = true) := by
    rw [show ((-1 : Int) == 1) = false from rfl, Bool.and_false, Bool.false_and]
    exact Bool.false_ne_true
  show wpAny _ _ (if ((items.size : Int) - 1 == 0 && (-1 : Int) == 1 && items.size == items.size) = true then _ else _) _ _ s
  rw [if_neg hno, pick_back]
  first
    | exact wpAny_bind (m := Builtin.Tuple.tupleExact _) (wpAny_newObj_type (wpAny_pure ⟨_, rfl, wpAny_pure h⟩) htake)
    | exact wpAny_bind (m := Builtin.Tuple.tupleExact _) (wpAny_newObj_type (wpAny_bind (wpAny_pure (wpAny_pure ⟨_, rfl, wpAny_pure h⟩))) htake)
    | exact wpAny_bind (wpAny_bind (m := Builtin.Tuple.tupleExact _) (wpAny_newObj_type (wpAny_pure (wpAny_pure ⟨_, rfl, wpAny_pure h⟩)) htake))
    | exact wpAny_bind (wpAny_bind (m := Builtin.Tuple.tupleExact _) (wpAny_newObj_type (wpAny_pure ⟨_, rfl, wpAny_pure h⟩) htake))
end
def tBackT (K : PySem.W.Frag) (te : TE) : TE := fun σ H Q => te σ H fun x H1 => ∃ a xs, x = .ref a ∧ SqT K H1 a xs ∧ ∀ p, H1 p = none → Q (.ref p) (upd H1 p (.tup xs.reverse))
/-- t[::-1] -/
theorem pe_backT {X : Cx} {e : Expr} {te : TE} {j : Nat} {pos p2 p3 p4 : Pos} (he : PE X e te) : PE X (.Subscript e (.Slice none none (some (.UnaryOp .USub (.Constant (.int 1) j p4) p3)) p2) pos) (tBackT X.K te) := by
  refine ⟨fun pins s σ H Q I h => ?_⟩
  refine Subscript_ (thn (he.run pins s σ H _ I h) fun v s1 ⟨x, H1, I1, r1, a, xs, ex, hx, q⟩ => ?_)
  subst ex
  obtain rfl : v = Value.ref a := r1
  refine wpAny_Slice ?_
  rw [evalPart_none, evalPart_some]
  refine wpAny_pure (wpAny_pure ?_)
  refine thn ((pe_un un_neg pe_int).run pins s1 σ H1 (fun y H2 => y = .int (-1) ∧ H2 = H1) I1 ⟨1, rfl, rfl, rfl⟩) fun vk s2 ⟨y, H2, I2, ry, ey, eH⟩ => ?_
  subst ey
  subst eH
  obtain ⟨tk, rfl⟩ := ry
  have I3 : Inv X pins σ H2 { s2 with heap := s2.heap.push { cls := .type "slice", data := .fields #[.none, .none, .int (-1) tk] } } := I2.kept (t' := s2.toks) fun b ob q => Heap.get?_push_of_some _ q
  obtain ⟨its, r, ht, hz⟩ := I3.tuple hx
  have hsl := Heap.IsSliceOf.new s2.heap .none .none (.int (-1) tk)
  refine tail_any (ops := [.ref a, .ref s2.heap.objs.size]) ht.typeIs PyProof.Rows.slot_tuple_getitem.lookup (getItem_back ht hsl (.int _ _) ?_ (by rw [List.size_toArray, ← r.length]; exact hz)) (by with_unfolding_all rfl)
  refine ⟨.ref _, _, I3.laid (t' := s2.toks) (o := .tup xs.reverse) (fun b ob q => Heap.get?_push_of_some _ q) (Nat.le_refl _) ?_, rfl, q _ (I3.hok.fresh (Nat.le_refl _))⟩
  exact ⟨by rw [List.length_reverse]; exact hz, _, r.reverse, IsTup.new _ _⟩
end MH
/-! Own special methods of instances: -o, o == p, o != p, str(o). -/
namespace MH
open PySem PySem.Spec PyProof.Rows L2

section
variable {prog : Program} {w : World} {M : Model} {A : Around} {E : Value → Shared → Prop} {s : Shared} {K : PySem.W.Frag} {x C f L : Addr} {h₀ : Heap} {m : Str → Option Value} {ox : Obj} {od : Option Obj} {b tb : Value}
open PySem.W in
theorem ifBound_objNe {args : List Value} {Q : Option Value → Shared → Prop} (X : K.In s.heap) (I : InstAt s.heap x ox C od) (hs : findIn K (.ref C) "__ne__" = some (some (.builtin "object.__ne__")))
    (h : wpAny M A (call (.builtin "object.__ne__") (.ref x :: args)) (fun v => Q (some v)) E s) : wpAny M A (callSpecialIfBound? (.ref x) "__ne__" args) Q E s := by
  simp only [callSpecialIfBound?, bindSpecialIfBound?]
  refine wpAny_holding (wpAny_bind (wpAny_bind (wpAny_bind (I.type.here ((looks_findIn X hs).here ?_)))))
  refine wpAny_bind (wpAny_askSetting (wpAny_ite ?_))
  have fin : wpAny M A (call (.builtin "object.__ne__") ([.ref x] ++ args) >>= fun v => pure (some v)) Q E s := wpAny_bind (wpAny_mono h (fun v s' h' => wpAny_pure h') fun _ _ h' => h')
  split
  · exact wpAny_bind (wpAny_of_eq (F.cmp_object.ne.bind _) (wpAny_pure (by exact fin)))
  · exact wpAny_tryCatch (wpAny_bind (wpAny_of_eq (F.cmp_object.ne.bind _) (wpAny_pure (by exact fin))))
open PySem.W Builtin in
theorem entry_ne {Q : Fin → Shared → Prop} (hu : A.units < cLine) (X : K.In s.heap) (I : InstAt s.heap x ox C od) (hs : findIn K (.ref C) "__eq__" = some (some (.ref f))) (hf : isFn K (.ref f) = true)
    (h : wpAny M A (call (.ref f) [.ref x, b]) (fun v s' => ∃ k, v = .bool k ∧ Q (.done (.ret (.bool (!k)))) s') E s) : wpAny M A (Builtin.«object.__ne__» ⟨[.ref x, b], []⟩) Q E s := by
  unfold Builtin.«object.__ne__»
  repeat (first
    | with_reducible refine wpAny_cRoomFor hu ?_
    | (refine wpAny_bind (m := callSpecialIfBound? (.ref x) (Str.ofString "__eq__") [b]) (ifBound_K X I hs hf (wpAny_mono h (fun r s' hr => by
          obtain ⟨k, rfl, hq⟩ := hr
          repeat (first | exact hq | exact wpAny_pure hq | exact wpAny_truthy_bool hq | (refine wpAny_bind (m := truthy (.bool _)) (wpAny_truthy_bool ?_)) | wp_step)) fun _ _ e => e)))
    | wp_step)
open PySem.W in
theorem ne_K {Q : Value → Shared → Prop} (hu : A.units < cLine) (hu1 : A.in1.units < cLine) (F₀ : Fr h₀ L s.heap m) (X₀ : K.In h₀) (I : InstAt s.heap x ox C od) (hb : Looks (model prog w) s.heap (typeOf b) tb) (hn : notFirst K C tb = true)
    (hne : findIn K (.ref C) "__ne__" = some (some (.builtin "object.__ne__"))) (hm : mroIn K C (.type "object") = some true) (hs : findIn K (.ref C) "__eq__" = some (some (.ref f))) (hf : isFn K (.ref f) = true)
    (h : wpAny (model prog w) A.in1 (call (.ref f) [.ref x, b]) (fun v s' => ∃ k, v = .bool k ∧ Q (.bool (!k)) s') E s) : wpAny (model prog w) A (richCompare .NotEq (.ref x) b) Q E s := by
  have X := X₀.keeps F₀.keep
  have one : wpAny (model prog w) A (tryCompare (.ref x) "__ne__" b) (fun r s' => ∃ v, r = some v ∧ Q v s') E s := by
    unfold tryCompare
    refine wpAny_bind (ifBound_objNe X I hne (wpAny_call (codeAny_call_builtin F.cmp_object.ne.plain F.cmpEntry_ne (check_slot F.cmpKind_ne F.cmpSplit_ne (I.type.andThen (looks_mroIn X hm)) (F.cmpArgs_ne _ _)
      (entry_ne (A := A.in1) hu1 X I hs hf (wpAny_mono h (fun v s' hv => ?_) fun _ _ e => e))))))
    obtain ⟨k, rfl, hq⟩ := hv
    first | exact ⟨k, rfl, wpAny_pure ⟨_, rfl, hq⟩⟩ | exact ⟨k, rfl, wpAny_pure (wpAny_pure ⟨_, rfl, hq⟩)⟩ | exact ⟨k, rfl, ⟨_, rfl, hq⟩⟩
  unfold richCompare
  simp only [oneThing_ref]
  refine wpAny_holding (wpAny_bind (wpAny_cRoomFor hu ?_))
  rw [cmpInfo_NotEq]
  dsimp only
  refine wpAny_bind (I.type.here (wpAny_bind (hb.here ?_)))
  split
  · rename_i q
    have e : subIn K tb (.ref C) = some false := by
      rcases Bool.or_eq_true_iff.mp hn with e | e
      · rw [beq_iff_eq.mp e] at q; simp at q
      · exact beq_iff_eq.mp e
    refine wpAny_bind ((looks_subIn X e).here ?_)
    simp only [Bool.false_eq_true, if_false]
    refine wpAny_bind (wpAny_mono one (fun r s' z => ?_) fun _ _ e => e)
    obtain ⟨v, rfl, hq⟩ := z
    exact wpAny_pure hq
  · refine wpAny_bind (wpAny_pure ?_)
    simp only [Bool.false_eq_true, if_false]
    refine wpAny_bind (wpAny_mono one (fun r s' z => ?_) fun _ _ e => e)
    obtain ⟨v, rfl, hq⟩ := z
    exact wpAny_pure hq
end

section
variable {X : Cx} {CX : CXT} {k : Nat} {C f : Addr} {fd : FuncData} {ps : List Str} {sp : Sp} {E : XK}
/-- a def called from a deeper place (a builtin calls it) -/
theorem run_A {pins : List (Addr × Obj)} {σ : L2.St} {H : Hp} {s : Shared} {Q : VK} {A : Around} {us : List Value} {vs : List V} (F : FnOk X.prog X.w X.K X.mg X.base CX k f fd ps sp) (hr : Room k A) (e0 : Env0 X.prog X.w X.K X.mg X.base A X.stack s H)
    (hb : Binds X.K fd ps []) (hx : Passes CX X E) (I : Inv X pins σ H s) (r : Vals vs us) (h : sp vs H Q E) : wpAny (model X.prog X.w) A (call (.ref f) us) (EP X pins σ Q) X.xe s := by
  have hl : (us ++ []).length = ps.length := by rw [List.append_nil, ← r.length, F.len _ _ _ _ h]
  have hb2 := hb s us I.kIn hl
  rw [List.append_nil] at hb2
  refine wpAny_call (codeAny_mono (F.run A X.stack s H ⟨us, []⟩ us vs Q E hr e0 hb2 r h) fun r s' hq => ?_)
  cases r with
  | error e => exact hx pins σ H s e s' I hq
  | ok fl =>
    cases fl with
    | ret u => exact I.after hq
    | next => exact False.elim hq
    | brk => exact False.elim hq
    | cont => exact False.elim hq
/-- what len asks of a list or tuple (call_len_seq), named -/
abbrev rLenSq (K : PySem.W.Frag) : List V → Hp → VK → Prop := fun xs H Q => ∃ p ys, xs = [V.ref p] ∧ (SqL K H p ys ∨ SqT K H p ys) ∧ Q (V.int (ys.length : Nat)) H
/-- -o -/
def rUO (C : Addr) (sp : Sp) (E : XK) : V → Hp → VK → Prop := fun x H Q => ∃ a dx fs, x = .ref a ∧ H a = some (.ins C dx fs) ∧ sp [.ref a] H Q E
theorem un_negO (hm : Meth X.K C "__neg__" f) (F : FnOk X.prog X.w X.K X.mg X.base CX k f fd ps sp) (hr : Room k X.A) (hb : Binds X.K fd ps []) (hx : Passes CX X E) : UnR X (unaryOp .USub) (rUO C sp E) := by
  intro pins s σ H x v Q I rx h
  obtain ⟨a, dx, fs, rfl, ha, q⟩ := h
  obtain rfl : v = Value.ref a := rx
  obtain ⟨mA, J, _⟩ := ins_get I.hok ha
  obtain ⟨od, J, _⟩ := J.look
  obtain ⟨m, hF⟩ := I.fr
  exact PySem.W.ksp_neg hF I.ok.mod.kin J hm.at_ hm.fn (run_A F hr I.env0 hb hx I (show Vals [V.ref a] [Value.ref a] from .cons rfl .nil) q)
/-- o == p -/
def rOO (C : Addr) (sp : Sp) (E : XK) : R2 := fun x y H Q => ∃ a b dx dy fs gs, x = .ref a ∧ y = .ref b ∧ H a = some (.ins C dx fs) ∧ H b = some (.ins C dy gs) ∧ sp [.ref a, .ref b] H (fun v H' => (∃ k, v = .bl k) ∧ Q v H') E
theorem op_eqO (hm : Meth X.K C "__eq__" f) (F : FnOk X.prog X.w X.K X.mg X.base CX k f fd ps sp) (hr : Room k X.A) (hb : Binds X.K fd ps []) (hx : Passes CX X E) : OpR X (compareOp .Eq) (rOO C sp E) := by
  intro pins s σ H x y v u Q I rx ry h
  obtain ⟨a, b, dx, dy, fs, gs, rfl, rfl, ha, hb', q⟩ := h
  obtain rfl : v = Value.ref a := rx
  obtain rfl : u = Value.ref b := ry
  obtain ⟨mA, J, _⟩ := ins_get I.hok ha
  obtain ⟨mB, J', _⟩ := ins_get I.hok hb'
  obtain ⟨od, J, _⟩ := J.look
  obtain ⟨od', J', _⟩ := J'.look
  obtain ⟨m, hF⟩ := I.fr
  refine PySem.W.cmp_K (op := .Eq) (tb := .ref C) hr.units0 hF I.ok.mod.kin J J'.type (by simp [PySem.W.notFirst]) hm.at_ hm.fn ?_
  refine wpAny_mono (run_A F hr I.env0 hb hx I (show Vals [V.ref a, V.ref b] [Value.ref a, Value.ref b] from .cons rfl (.cons rfl .nil)) q) (fun r s' z => ?_) fun _ _ e => e
  obtain ⟨v, H', I', rv, ⟨k, rfl⟩, q'⟩ := z
  obtain rfl : r = Value.bool k := rv
  exact ⟨.bl k, H', I', rfl, q'⟩
/-- o != p by the own == -/
def rONe (C : Addr) (sp : Sp) (E : XK) : R2 := fun x y H Q => ∃ a b dx dy fs gs, x = .ref a ∧ y = .ref b ∧ H a = some (.ins C dx fs) ∧ H b = some (.ins C dy gs) ∧ sp [.ref a, .ref b] H (fun v H' => ∃ k, v = .bl k ∧ Q (.bl (!k)) H') E
theorem op_neO (hm : Meth X.K C "__eq__" f) (hne : PySem.W.findIn X.K (.ref C) "__ne__" = some (some (.builtin "object.__ne__"))) (ho : PySem.W.mroIn X.K C (.type "object") = some true)
    (F : FnOk X.prog X.w X.K X.mg X.base CX k f fd ps sp) (hr : Room (k + 1) X.A) (hb : Binds X.K fd ps []) (hx : Passes CX X E) : OpR X (compareOp .NotEq) (rONe C sp E) := by
  intro pins s σ H x y v u Q I rx ry h
  obtain ⟨a, b, dx, dy, fs, gs, rfl, rfl, ha, hb', q⟩ := h
  obtain rfl : v = Value.ref a := rx
  obtain rfl : u = Value.ref b := ry
  obtain ⟨mA, J, _⟩ := ins_get I.hok ha
  obtain ⟨mB, J', _⟩ := ins_get I.hok hb'
  obtain ⟨od, J, _⟩ := J.look
  obtain ⟨od', J', _⟩ := J'.look
  obtain ⟨m, hF⟩ := I.fr
  refine ne_K (tb := .ref C) hr.units0 hr.in1.units0 hF I.ok.mod.kin J J'.type (by simp [PySem.W.notFirst]) hne ho hm.at_ hm.fn ?_
  refine wpAny_mono (run_A F hr.in1 I.env0.in1 hb hx I (show Vals [V.ref a, V.ref b] [Value.ref a, Value.ref b] from .cons rfl (.cons rfl .nil)) q) (fun r s' z => ?_) fun _ _ e => e
  obtain ⟨v, H', I', rv, k, rfl, q'⟩ := z
  obtain rfl : r = Value.bool k := rv
  exact ⟨k, rfl, .bl (!k), H', I', rfl, q'⟩
/-- str(o) -/
def rStrO (C : Addr) (sp : Sp) (E : XK) : List V → Hp → VK → Prop := fun xs H Q => ∃ a dx fs, xs = [.ref a] ∧ H a = some (.ins C dx fs) ∧ sp [.ref a] H (fun v H' => (∃ z, v = .str z) ∧ Q v H') E
theorem call_strO (hm : Meth X.K C "__str__" f) (F : FnOk X.prog X.w X.K X.mg X.base CX k f fd ps sp) (hr : Room (k + 2) X.A) (hb : Binds X.K fd ps []) (hx : Passes CX X E) : CallR X (.type "str") (rStrO C sp E) := by
  intro pins s σ H xs us Q I r h
  obtain ⟨a, dx, fs, rfl, ha, q⟩ := h
  obtain ⟨u, rfl, ru⟩ := vals1 r
  obtain rfl : u = Value.ref a := ru
  obtain ⟨mA, J, _⟩ := ins_get I.hok ha
  obtain ⟨od, J, _⟩ := J.look
  refine PySem.W.kso_call hr.in1.in1.units0 I.kIn J hm.at_ hm.fn ?_
  refine wpAny_mono (run_A F hr.in1.in1 I.env0.in1.in1 hb hx I (show Vals [V.ref a] [Value.ref a] from .cons rfl .nil) q) (fun r s' z => ?_) fun _ _ e => e
  obtain ⟨v, H', I', rv, ⟨z, rfl⟩, q'⟩ := z
  obtain ⟨t, rfl⟩ := rv
  exact ⟨.str z, H', I', ⟨t, rfl⟩, q'⟩
/-- o.m(), m a def with a star parameter -/
theorem pe_methR0 {o : Expr} {ta : TE} {m : Str} {apos pos : Pos} {pl : Sem Bool} (he : PE X o ta) (c : Cls X.K C) (hm : Meth X.K C m f) (F : FnR X.prog X.w X.K X.mg X.base CX k f sp) (hr : Room k X.A) (hx : Passes CX X E)
    (ht : eval (.Call (.Attribute o m apos) [] [] pos) X.env = (do
      let ov ← eval o X.env
      standAt apos.atName
      let (f, first) ← holding [ov] (getMethod ov m pl)
      callWith pos f first (backTo pos (starEach [] X.env)) (backToKw pos (keywordEach [] X.env))) := by rfl) :
    PE X (.Call (.Attribute o m apos) [] [] pos) (tMethR C m sp E ta tNil) := by
  refine ⟨fun pins s σ H Q I h => ?_⟩
  refine PySem.W.methodCall_KW (pl := pl) (thn (he.run pins s σ H _ I h) fun u s1 ⟨x, H1, I1, rx, a, dx, fs, ex, ea, l, q⟩ => ?_) ht
  subst ex
  obtain rfl : u = Value.ref a := rx
  refine getmeth_ok I1 ea c hm l ?_
  exact PySem.W.callWith_K0 (first := [.ref a]) I1.kIn hm.kp (wpAny_call (run_fnR (us := [.ref a]) (vs := [.ref a]) F hr hx I1 (.cons rfl .nil) q))
/-- a def f(a, *r) by its facts -/
theorem fun_star {P : Program} {w : World} {K : PySem.W.Frag} {mg : Str → Option Value} {base : Heap} {f : Addr} {x qual pa pv : Str} {st : Stmt} {fd : FuncData} {N : List Str} {sp : Sp} (F : Fun K x qual st f fd) (S : FnScope N [pa, pv] (defScope st))
    (hb : ∀ (u : Value) (rest : List Value), rest.length ≤ 5 → bindArgs fd ⟨u :: rest, []⟩ = (newTuple rest >>= fun t => pure [(pa, u), (pv, t)]))
    (hbd : ∀ (cdv : Value) (A : Around) (outer : List Env) (s : Shared) (H : Hp) (vs : List V) (Q : VK), Room k (A.deeper (envOfC qual (defScope st) s.heap.objs.size f cdv)) → sp vs H Q E0 →
      ∃ t, PSs (cxOf CX0 P w K mg base N qual (defScope st) f cdv A outer s H E0).nox (defBody st) t ∧ t { nx := fun _ H' => Q .non H', rt := Q } (start N vs) H) :
    FnR P w K mg base CX0 (k + 1) f (fun vs H Q _ => ∃ v rest, vs = v :: rest ∧ rest.length ≤ 5 ∧ ∀ p, H p = none → sp [v, .ref p] (upd H p (.tup rest)) Q E0) := by
  obtain ⟨oc, od, kV, doc, pm, an, cdv, ct, osl, rfl, lk, hc⟩ := F.ex
  intro A outer s H us vs Q E hr e0 r h
  refine fn_ofV (CX := CX0) (sp := fun vs H Q E => E = E0 ∧ sp vs H Q E0) lk hc S (nmax := 5) (by decide) hb (fun _ _ _ _ _ _ _ _ _ _ _ _ z => z) (fun A outer s H vs Q E hr h => ?_) A outer s H us vs Q E0 hr e0 r ?_
  · obtain ⟨rfl, h⟩ := h
    obtain ⟨t, h, q⟩ := hbd cdv A outer s H vs Q hr h
    exact ⟨t, h.nox, q⟩
  · obtain ⟨v, rest, e, hl, q⟩ := h
    exact ⟨v, rest, e, hl, fun p hp => ⟨rfl, q p hp⟩⟩
end
end MH
/-! More own special methods: len, bool, repr, [], in, == and != with values of other kinds, f-strings, classmethods. -/
namespace MH
open PySem PySem.Spec PyProof.Rows L2

section
variable {prog : Program} {w : World} {A : Around} {E : Value → Shared → Prop} {s : Shared} {K : PySem.W.Frag} {x C f L : Addr} {h₀ : Heap} {m : Str → Option Value} {ox : Obj} {od : Option Obj}
open PySem.W in
/-- truth by an own __len__ -/
theorem truthy_len {Q : Bool → Shared → Prop} (F₀ : Fr h₀ L s.heap m) (X₀ : K.In h₀) (I : InstAt s.heap x ox C od) (hs : findIn K (.ref C) "__bool__" = some none) (hl : findIn K (.ref C) "__len__" = some (some (.ref f))) (hf : isFn K (.ref f) = true)
    (h : wpAny (model prog w) A.in1 (call (.ref f) [.ref x]) (fun v s' => ∃ n t, v = .int n t ∧ 0 ≤ n ∧ n < 2 ^ 63 ∧ Q (n != 0) { s' with toks := s'.toks + 1 }) E s) : wpAny (model prog w) A (truthy (.ref x)) Q E s := by
  have X := X₀.keeps F₀.keep
  unfold truthy
  refine wpAny_bind (m := callSpecial? (.ref x) (Str.ofString "__bool__")) (wpAny_bind (wpAny_bind (I.type.here ((looks_findIn X hs).here (wpAny_pure ?_)))))
  refine wpAny_bind (wpAny_bind (I.type.here ((looks_findIn X hl).here ?_)))
  show wpAny _ _ (if (some (Value.ref f)).isNone = true then _ else _) _ _ _
  rw [if_neg (by simp)]
  have key : wpAny (model prog w) A (runValue (.builtin "len" ⟨[.ref x], []⟩)) (fun r s' => ∃ n t, r = .int n t ∧ Q (n != 0) s') E s := by
    refine wpAny_runValue (codeAny_builtin entry_len ?_)
    rw [show A.under (.builtin "len" ⟨[.ref x], []⟩) = A.in1 from Around.under_plainId (by decide +kernel) _]
    unfold Builtin.«len»
    refine wpAny_bind (m := oneArg "len" _) (wpAny_pure ?_)
    refine wpAny_bind (m := callSpecial? (.ref x) (Str.ofString "__len__")) (special_fn X I hl (beq_iff_eq.mp hf) (wpAny_mono h (fun r s' hr => ?_) fun _ _ y => y))
    obtain ⟨n, t, rfl, h0, h1, hq⟩ := hr
    refine wpAny_bind (wpAny_holding (wpAny_pure ?_))
    refine wpAny_bind (wpAny_letGo ?_)
    show wpAny _ _ (if n < 0 then _ else _) _ _ _
    rw [if_neg (by omega)]
    show wpAny _ _ (if n ≥ 2 ^ 63 then _ else _) _ _ _
    rw [if_neg (by omega)]
    exact wpAny_bind (wpAny_mkInt (wpAny_pure ⟨n, _, rfl, hq⟩))
  refine wpAny_bind (wpAny_mono key (fun r s' hr => ?_) fun _ _ y => y)
  obtain ⟨n, t, rfl, hq⟩ := hr
  exact wpAny_pure hq
theorem bool_newM {v : Value} : MeetsIn prog w (Builtin.«bool.__new__» ⟨[.type "bool", v], []⟩) (fun A R s => wpAny (model prog w) A.in1 (truthy v) (fun b s' => R (.ok (.ret (.bool b))) s') (fun e s' => R (.error e) s') s) :=
  .of_wp fun A R s h => by
    obtain ⟨hp, g, d, tk, os⟩ := s
    have f1 := F.conv_sub_bool
    repeat (any_goals (first | assumption | (refine wpAny_bind (m := truthy _) (wpAny_mono h (fun b s' z => ?_) fun _ _ z => z)) | wp_step))
    all_goals first | exact ⟨_, rfl, z⟩ | exact z | skip
theorem call_bool_of {v : Value} {Q : Value → Shared → Prop} (h : wpAny (model prog w) A.in1.in1 (truthy v) (fun b s' => Q (.bool b) s') E s) : wpAny (model prog w) A (call (.type "bool") [v]) Q E s :=
  callType_newIn F.called_bool F.newNe_bool (F.typeCall_bool_1 v) (F.newCall_bool_1 v) (fun obj => F.args_object_init_2 obj v) F.entry_bool_new bool_newM (wpAny_mono h (fun b s' z => ⟨rfl, z⟩) fun _ _ z => z)
open PySem.W in
theorem sub_ty {T : String} {l : List Value} (e : fastBuiltinMro T = some l) (h : l.all (fun v => match v with | .type _ => true | _ => false) = true) : subIn K (.type T) (.ref C) = some false := by
  show (fastBuiltinMro T).map (·.contains (.ref C)) = some false
  rw [e]
  show some (l.contains (Value.ref C)) = some false
  refine congrArg some ?_
  cases q : l.contains (Value.ref C) with
  | false => rfl
  | true =>
    have m := List.contains_iff_mem.mp q
    have z := List.all_eq_true.mp h _ m
    cases z
open PySem.W in
theorem notFirst_ty {T : String} (e : subIn K (.type T) (.ref C) = some false) : notFirst K C (.type T) = true := by
  unfold notFirst
  rw [e]
  simp
open PySem.W in
theorem kit_own {T : String} (c : Cls K C) (ht : typeIn K (.ref C) = some (.type "type")) (e : subIn K (.type T) (.ref C) = some false) : kitOne K (.type T) (.ref C) = some false := by
  obtain ⟨cd, hc, _⟩ := any_some c.hd
  unfold kitOne
  rw [if_neg (by simp)]
  unfold kitCls
  simp only [hc, ht]
  simpa using e
end

section
variable {X : Cx} {CX : CXT} {k : Nat} {C f : Addr} {fd : FuncData} {ps : List Str} {sp : Sp} {E : XK}
/-- len(o) -/
def rLenO (C : Addr) (sp : Sp) (E : XK) : List V → Hp → VK → Prop := fun xs H Q => ∃ a dx fs, xs = [.ref a] ∧ H a = some (.ins C dx fs) ∧ sp [.ref a] H (fun v H' => (∃ n : Int, v = .int n ∧ 0 ≤ n ∧ n < 2 ^ 63) ∧ Q v H') E
theorem call_lenO (hm : Meth X.K C "__len__" f) (F : FnOk X.prog X.w X.K X.mg X.base CX k f fd ps sp) (hr : Room (k + 1) X.A) (hb : Binds X.K fd ps []) (hx : Passes CX X E) : CallR X (.builtin "len") (rLenO C sp E) := by
  intro pins s σ H xs us Q I r h
  obtain ⟨a, dx, fs, rfl, ha, q⟩ := h
  obtain ⟨u, rfl, ru⟩ := vals1 r
  obtain rfl : u = Value.ref a := ru
  obtain ⟨mA, J, _⟩ := ins_get I.hok ha
  obtain ⟨od, J, _⟩ := J.look
  obtain ⟨m, hF⟩ := I.fr
  refine PySem.W.len_K hF I.ok.mod.kin J hm.at_ hm.fn ?_
  refine wpAny_mono (run_A F hr.in1 I.env0.in1 hb hx I (show Vals [V.ref a] [Value.ref a] from .cons rfl .nil) q) (fun r s' z => ?_) fun _ _ e => e
  obtain ⟨v, H', I', rv, ⟨n, rfl, h0, h1⟩, q'⟩ := z
  obtain ⟨t, rfl⟩ := rv
  exact ⟨⟨h0, h1⟩, .int n, H', I'.tok _, ⟨_, rfl⟩, q'⟩
/-- bool(o), by len -/
def rBoolO (C : Addr) (sp : Sp) (E : XK) : List V → Hp → VK → Prop := fun xs H Q => ∃ a dx fs, xs = [.ref a] ∧ H a = some (.ins C dx fs) ∧ sp [.ref a] H (fun v H' => ∃ n : Int, v = .int n ∧ 0 ≤ n ∧ n < 2 ^ 63 ∧ Q (.bl (n != 0)) H') E
theorem call_boolO (hm : Meth X.K C "__len__" f) (hs : PySem.W.findIn X.K (.ref C) "__bool__" = some none) (F : FnOk X.prog X.w X.K X.mg X.base CX k f fd ps sp) (hr : Room (k + 3) X.A) (hb : Binds X.K fd ps []) (hx : Passes CX X E) : CallR X (.type "bool") (rBoolO C sp E) := by
  intro pins s σ H xs us Q I r h
  obtain ⟨a, dx, fs, rfl, ha, q⟩ := h
  obtain ⟨u, rfl, ru⟩ := vals1 r
  obtain rfl : u = Value.ref a := ru
  obtain ⟨mA, J, _⟩ := ins_get I.hok ha
  obtain ⟨od, J, _⟩ := J.look
  obtain ⟨m, hF⟩ := I.fr
  refine call_bool_of (truthy_len hF I.ok.mod.kin J hs hm.at_ hm.fn ?_)
  refine wpAny_mono (run_A F hr.in1.in1.in1 I.env0.in1.in1.in1 hb hx I (show Vals [V.ref a] [Value.ref a] from .cons rfl .nil) q) (fun r s' z => ?_) fun _ _ e => e
  obtain ⟨v, H', I', rv, n, rfl, h0, h1, q'⟩ := z
  obtain ⟨t, rfl⟩ := rv
  exact ⟨n, t, rfl, h0, h1, .bl (n != 0), H', I'.tok _, rfl, q'⟩
/-- repr(o) -/
theorem call_reprO (hm : Meth X.K C "__repr__" f) (F : FnOk X.prog X.w X.K X.mg X.base CX k f fd ps sp) (hr : Room (k + 1) X.A) (hb : Binds X.K fd ps []) (hx : Passes CX X E) : CallR X (.builtin "repr") (rStrO C sp E) := by
  intro pins s σ H xs us Q I r h
  obtain ⟨a, dx, fs, rfl, ha, q⟩ := h
  obtain ⟨u, rfl, ru⟩ := vals1 r
  obtain rfl : u = Value.ref a := ru
  obtain ⟨mA, J, _⟩ := ins_get I.hok ha
  obtain ⟨od, J, _⟩ := J.look
  obtain ⟨m, hF⟩ := I.fr
  refine PySem.W.repr_K hr.in1.units0 hF I.ok.mod.kin J hm.at_ hm.fn ?_
  refine wpAny_mono (run_A F hr.in1 I.env0.in1 hb hx I (show Vals [V.ref a] [Value.ref a] from .cons rfl .nil) q) (fun r s' z => ?_) fun _ _ e => e
  obtain ⟨v, H', I', rv, ⟨z, rfl⟩, q'⟩ := z
  obtain ⟨t, rfl⟩ := rv
  exact ⟨.str z, H', I', ⟨t, rfl⟩, q'⟩
/-- o[e] -/
def tItO (C : Addr) (sp : Sp) (E : XK) (ta tb : TE) : TE := fun σ H Q => ta σ H fun x H1 => tb σ H1 fun y H2 => ∃ a dx fs, x = .ref a ∧ H2 a = some (.ins C dx fs) ∧ sp [.ref a, y] H2 Q E
theorem pe_itO {a b : Expr} {ta tb : TE} {pos : Pos} (hm : Meth X.K C "__getitem__" f) (hfi : PySem.W.fnIn X.K f = true) (F : FnOk X.prog X.w X.K X.mg X.base CX k f fd ps sp) (hr : Room (k + 1) X.A) (hb : Binds X.K fd ps []) (hx : Passes CX X E)
    (he : PE X a ta) (hi : PE X b tb) (hsl : ∀ o i, subscripted b true o i = runValue (.builtin "lifetime.subscript" ⟨[o, i], []⟩)) : PE X (.Subscript a b pos) (tItO C sp E ta tb) := by
  refine ⟨fun pins s σ H Q I h => ?_⟩
  refine Subscript_ (binT he hi I h fun v u s2 x y H2 I2 rx ry q => ?_)
  obtain ⟨o, dx, fs, rfl, ha, q⟩ := q
  obtain rfl : v = Value.ref o := rx
  obtain ⟨mA, J, _⟩ := ins_get I2.hok ha
  obtain ⟨od, J, _⟩ := J.look
  obtain ⟨m, hF⟩ := I2.fr
  exact PySem.W.sub_K hF I2.ok.mod.kin J hm.at_ hfi hm.fn (run_A F hr.in1 I2.env0.in1 hb hx I2 (show Vals [V.ref o, y] [Value.ref o, u] from .cons rfl (.cons ry .nil)) q) (hsl _ _)
/-- v in o -/
def rInO (C : Addr) (sp : Sp) (E : XK) : R2 := fun x y H Q => ∃ a dx fs, y = .ref a ∧ H a = some (.ins C dx fs) ∧ sp [.ref a, x] H (fun v H' => (∃ k, v = .bl k) ∧ Q v H') E
theorem op_inO (hm : Meth X.K C "__contains__" f) (F : FnOk X.prog X.w X.K X.mg X.base CX k f fd ps sp) (hr : Room k X.A) (hb : Binds X.K fd ps []) (hx : Passes CX X E) : OpR X (compareOp .In) (rInO C sp E) := by
  intro pins s σ H x y v u Q I rx ry h
  obtain ⟨a, dx, fs, rfl, ha, q⟩ := h
  obtain rfl : u = Value.ref a := ry
  obtain ⟨mA, J, _⟩ := ins_get I.hok ha
  obtain ⟨od, J, _⟩ := J.look
  obtain ⟨m, hF⟩ := I.fr
  refine PySem.W.in_K hF I.ok.mod.kin J hm.at_ hm.fn ?_
  refine wpAny_mono (run_A F hr I.env0 hb hx I (show Vals [V.ref a, x] [Value.ref a, v] from .cons rfl (.cons rx .nil)) q) (fun r s' z => ?_) fun _ _ e => e
  obtain ⟨w, H', I', rw', ⟨k, rfl⟩, q'⟩ := z
  obtain rfl : r = Value.bool k := rw'
  exact wpAny_truthy_bool ⟨.bl k, H', I', rfl, q'⟩
/-- o == v, v of a known type -/
def rOX (C : Addr) (K : PySem.W.Frag) (sp : Sp) (E : XK) : R2 := fun x y H Q => ∃ a dx fs t, x = .ref a ∧ H a = some (.ins C dx fs) ∧ TyX K H y t ∧ PySem.W.notFirst K C t = true ∧ sp [.ref a, y] H (fun v H' => (∃ k, v = .bl k) ∧ Q v H') E
theorem op_eqX (hm : Meth X.K C "__eq__" f) (F : FnOk X.prog X.w X.K X.mg X.base CX k f fd ps sp) (hr : Room k X.A) (hb : Binds X.K fd ps []) (hx : Passes CX X E) : OpR X (compareOp .Eq) (rOX C X.K sp E) := by
  intro pins s σ H x y v u Q I rx ry h
  obtain ⟨a, dx, fs, t, rfl, ha, ty, hn, q⟩ := h
  obtain rfl : v = Value.ref a := rx
  obtain ⟨mA, J, _⟩ := ins_get I.hok ha
  obtain ⟨od, J, _⟩ := J.look
  obtain ⟨m, hF⟩ := I.fr
  obtain ⟨P, Z, p, _⟩ := kit_of I ry ty
  refine PySem.W.cmp_K (op := .Eq) (tb := t) hr.units0 hF I.ok.mod.kin J (Z.ty _ _ I.kIn p) hn hm.at_ hm.fn ?_
  refine wpAny_mono (run_A F hr I.env0 hb hx I (show Vals [V.ref a, y] [Value.ref a, u] from .cons rfl (.cons ry .nil)) q) (fun r s' z => ?_) fun _ _ e => e
  obtain ⟨w, H', I', rv, ⟨k, rfl⟩, q'⟩ := z
  obtain rfl : r = Value.bool k := rv
  exact ⟨.bl k, H', I', rfl, q'⟩
/-- o != v -/
def rNX (C : Addr) (K : PySem.W.Frag) (sp : Sp) (E : XK) : R2 := fun x y H Q => ∃ a dx fs t, x = .ref a ∧ H a = some (.ins C dx fs) ∧ TyX K H y t ∧ PySem.W.notFirst K C t = true ∧ sp [.ref a, y] H (fun v H' => ∃ k, v = .bl k ∧ Q (.bl (!k)) H') E
theorem op_neX (hm : Meth X.K C "__eq__" f) (hne : PySem.W.findIn X.K (.ref C) "__ne__" = some (some (.builtin "object.__ne__"))) (ho : PySem.W.mroIn X.K C (.type "object") = some true)
    (F : FnOk X.prog X.w X.K X.mg X.base CX k f fd ps sp) (hr : Room (k + 1) X.A) (hb : Binds X.K fd ps []) (hx : Passes CX X E) : OpR X (compareOp .NotEq) (rNX C X.K sp E) := by
  intro pins s σ H x y v u Q I rx ry h
  obtain ⟨a, dx, fs, t, rfl, ha, ty, hn, q⟩ := h
  obtain rfl : v = Value.ref a := rx
  obtain ⟨mA, J, _⟩ := ins_get I.hok ha
  obtain ⟨od, J, _⟩ := J.look
  obtain ⟨m, hF⟩ := I.fr
  obtain ⟨P, Z, p, _⟩ := kit_of I ry ty
  refine ne_K (tb := t) hr.units0 hr.in1.units0 hF I.ok.mod.kin J (Z.ty _ _ I.kIn p) hn hne ho hm.at_ hm.fn ?_
  refine wpAny_mono (run_A F hr.in1 I.env0.in1 hb hx I (show Vals [V.ref a, y] [Value.ref a, u] from .cons rfl (.cons ry .nil)) q) (fun r s' z => ?_) fun _ _ e => e
  obtain ⟨w, H', I', rv, k, rfl, q'⟩ := z
  obtain rfl : r = Value.bool k := rv
  exact ⟨k, rfl, .bl (!k), H', I', rfl, q'⟩
/-- {o} in an f-string -/
def tFmtO (C : Addr) (sp : Sp) (E : XK) (te : TE) : TE := fun σ H Q => te σ H fun x H1 => ∃ a dx fs, x = .ref a ∧ H1 a = some (.ins C dx fs) ∧ sp [.ref a] H1 (fun v H' => (∃ z, v = .str z) ∧ Q v H') E
theorem pe_fmtO {e : Expr} {te : TE} {pos : Pos} (hm : Meth X.K C "__str__" f) (hfm : PySem.W.findIn X.K (.ref C) "__format__" = some (some (.builtin "object.__format__"))) (ho : PySem.W.mroIn X.K C (.type "object") = some true)
    (F : FnOk X.prog X.w X.K X.mg X.base CX k f fd ps sp) (hr : Room (k + 1) X.A) (hb : Binds X.K fd ps []) (hx : Passes CX X E) (he : PE X e te) : PE X (.FormattedValue e (-1) none pos) (tFmtO C sp E te) := by
  refine ⟨fun pins s σ H Q I h => ?_⟩
  refine wpAny_FormattedValue_plain (thn (he.run pins s σ H _ I h) fun v s1 ⟨x, H1, I1, r1, a, dx, fs, ex, ha, q⟩ => ?_)
  subst ex
  obtain rfl : v = Value.ref a := r1
  obtain ⟨mA, J, _⟩ := ins_get I1.hok ha
  obtain ⟨od, J, _⟩ := J.look
  have I2 := I1.tok (s1.toks + 1)
  refine PySem.W.kfo_fieldS hr.in1.units0 I1.kIn J hfm ho hm.at_ hm.fn ?_
  refine wpAny_mono (run_A F hr.in1 I2.env0.in1 hb (fun pins σ H s e s' I z => hx pins σ H s e s' I z) I2 (show Vals [V.ref a] [Value.ref a] from .cons rfl .nil) q) (fun r s' z => ?_) fun _ _ e => e
  obtain ⟨v, H', I', rv, ⟨z, rfl⟩, q'⟩ := z
  obtain ⟨t, rfl⟩ := rv
  exact ⟨.str z, H', I', ⟨t, rfl⟩, q'⟩
/-- c(..), c a local name that holds the class -/
def tMakeV (C : Addr) (sp : Sp) (E : XK) (tf : TE) (t : TA) : TE := fun σ H Q => tf σ H fun x H0 => x = .ref C ∧ tMake C sp [] E t σ H0 Q
theorem pe_makeV {x : Str} {p pos : Pos} {e : Expr} {es : List Expr} {tf : TE} {t : TA} (M : Mk X.K C f) (F : FnOk X.prog X.w X.K X.mg X.base CX k f fd ps sp) (hr : Room (k + 1) X.A) (hv : PE X (.Name x p) tf) (hb : Binds X.K fd ps []) (hx : Passes CX X E)
    (ha : PA X (e :: es) t) (he : starEach (e :: es) X.env = (false, eval e X.env) :: starEach es X.env := by rfl) (hpl : (backTo pos (starEach es X.env)).any (·.1) = false := by rfl) : PE X (.Call (.Name x p) (e :: es) [] pos) (tMakeV C sp E tf t) := by
  refine ⟨fun pins s σ H Q I h => ?_⟩
  refine wpAny_Call_Name_kw (thn (hv.run pins s σ H _ I h) fun f s0 ⟨v, H0, I0, r0, ev, q0⟩ => ?_)
  subst ev
  obtain rfl : f = Value.ref C := r0
  refine PySem.W.callWith_K (h₀ := X.base) I.ok.mod.kin M.kp (thn (ha.run pos pins s0 σ H0 _ I0 q0) fun us s1 ⟨vs, H1, I1, r, q⟩ => ⟨I1.kIn, ?_⟩) he hpl
  exact run_make M F hr hb .nil hx I1 r q
theorem FnOk.toR {P : Program} {w : World} {K : PySem.W.Frag} {mg : Str → Option Value} {base : Heap} (F : FnOk P w K mg base CX k f fd ps sp) (hB : Binds K fd ps []) : FnR P w K mg base CX k f sp := fun A outer s H us vs Q E hr e0 r hs => by
  have KX : K.In s.heap := e0.mod.kin.keeps fun b o e => (e0.bs b o e).1
  have hl : (us ++ []).length = ps.length := by rw [List.append_nil, ← r.length, F.len _ _ _ _ hs]
  have hb2 := hB s us KX hl
  rw [List.append_nil] at hb2
  exact F.run A outer s H ⟨us, []⟩ us vs Q E hr e0 hb2 r hs
/-- c.m(k = v), m a classmethod -/
def tCMethK (C : Addr) (n : Nat) (sp : Sp) (gV : List V → List V → List V) (E : XK) (ta : TE) (tk : TA) : TE := fun σ H Q => ta σ H fun x H1 => x = .ref C ∧ tk σ H1 fun zs H2 => zs.length = n ∧ sp (gV [.ref C] zs) H2 Q E
theorem pe_cmethK {p : Addr} {mc : Value} {ks : List Str} {o : Expr} {m : Str} {apos pos : Pos} {kws : List Keyword} {ta : TE} {tk : TA} {g : List Value → List Value → List Value} {gV : List V → List V → List V} {pl : Sem Bool} (he : PE X o ta) (r : ClX.CRead X.K C mc) (c : ClX.CMet X.K C mc m p f)
    (F : FnOk X.prog X.w X.K X.mg X.base CX k f fd ps sp) (hr : Room k X.A) (hb : KBn X.K fd ps 1 ks g gV) (hx : Passes CX X E) (hkw : PK X kws tk)
    (hall : (backToKw pos (keywordEach kws X.env)).all (·.1.isSome) = true := by rfl) (hks : (backToKw pos (keywordEach kws X.env)).filterMap (·.1) = ks := by rfl)
    (hpl : ((backTo pos (starEach [] X.env)).any (·.1) || (backToKw pos (keywordEach kws X.env)).any (·.1.isNone)) = false := by rfl)
    (ht : eval (.Call (.Attribute o m apos) [] kws pos) X.env = (do
      let ov ← eval o X.env
      standAt apos.atName
      let (f, first) ← holding [ov] (getMethod ov m pl)
      callWith pos f first (backTo pos (starEach [] X.env)) (backToKw pos (keywordEach kws X.env))) := by rfl) :
    PE X (.Call (.Attribute o m apos) [] kws pos) (tCMethK C ks.length sp gV E ta tk) := by
  refine ⟨fun pins s σ H Q I h => ?_⟩
  refine PySem.W.methodCall_KW (pl := pl) (thn (he.run pins s σ H _ I h) fun u s1 ⟨x, H1, I1, rx, ex, q⟩ => ?_) ht
  subst ex
  obtain rfl : u = Value.ref C := rx
  refine ClX.getmethcm_ok I1 r c fun s2 I2 => ?_
  refine PySem.W.callWith_of (P := PySem.W.MethP X.K s1.heap.objs.size f (.ref C)) hpl (PySem.W.keeps_M c.fi) (PyProof.Rows.evalArgs_kw2_nil hall ?_)
  refine thn (hkw.run pos _ s2 σ H1 _ I2 q) fun ws s3 ⟨zs, H2, I3, rz, hz, q2⟩ => ⟨⟨ClX.pin_at I3, I3.kIn⟩, ?_⟩
  rw [hks]
  have r1 : Vals [V.ref C] [Value.ref C] := .cons rfl .nil
  have r2 := hb.rel r1 rz
  have z : wpAny (model X.prog X.w) X.A (call (.ref s1.heap.objs.size) ([] ++ []) (ks.zip ws)) (EP X ((s1.heap.objs.size, PySem.W.methodObj (.ref f) (.ref C)) :: pins) σ Q) X.xe s3 := by
    refine wpAny_call (PySem.W.method_call (ClX.pin_at I3) (codeAny_mono (F.run X.A X.stack s3 H2 ⟨[.ref C], ks.zip ws⟩ (g [.ref C] ws) (gV [.ref C] zs) Q E hr I3.env0 (hb.to s3 [.ref C] ws I3.kIn rfl (rz.length.symm.trans hz)) r2 q2) fun r s' hq => ?_))
    match r, hq with
    | .ok (.ret u), hq => exact I3.after hq
    | .ok .next, hq => exact False.elim hq
    | .ok .brk, hq => exact False.elim hq
    | .ok .cont, hq => exact False.elim hq
    | .error e, hq => exact hx _ σ H2 s3 e s' I3 hq
  exact thn z fun _ _ y => ClX.unpinE y
/-- repr of a truth -/
def rReprB : List V → Hp → VK → Prop := fun xs H Q => ∃ b, xs = [.bl b] ∧ Q (.str (if b then "True" else "False")) H
theorem call_reprB : CallR X (.builtin "repr") rReprB := by
  intro pins s σ H xs us Q I r h
  obtain ⟨b, rfl, q⟩ := h
  obtain ⟨u, rfl, r1⟩ := vals1 r
  obtain rfl : u = Value.bool b := r1
  exact PySem.P.repr_of_bool ⟨.str _, H, I.tok _, ⟨_, rfl⟩, q⟩
end
end MH
/-! try .. except (A, B, C) as n: the clause's classes in a tuple. -/
namespace MH
open PySem PySem.Spec PyProof.Rows L2
/-- a flight stays one where only new objects come -/
theorem flying_more {B : Heap} {l : List Env} {a : Addr} {Z : Obj → Prop} {g g' : Heap} (k : ∀ b o, g.get? b = some o → g'.get? b = some o) (x : HandSPX.FlyingZ B l a Z g) : HandSPX.FlyingZ B l a Z g' := by
  obtain ⟨x1, x2, x3, oe, vs, T, oT, ts, y1, y2, y3, y4, y5, y6, y7, y8⟩ := x
  exact ⟨fun b o e => k _ _ (x1 b o e), x2, Heap.FunFrames.of_keeps (fun b o e _ => ⟨o, k _ _ e, rfl⟩) x3, oe, vs, T, oT, ts, k _ _ y1, y2, y3, y4, y5, y6, k _ _ y7, y8⟩
theorem slots_more {g g1 g2 : Heap} (u : g.UpToSlots g1) (k : ∀ b o, g1.get? b = some o → g2.get? b = some o) : g.UpToSlots g2 := fun b o e hd => by
  obtain ⟨sl, q⟩ := u b o e hd
  exact ⟨sl, k _ _ q⟩
/-- what such a clause wishes of an exception of the body -/
def wAsT (K : PySem.W.Frag) (cs : List Value) (i : Nat) (ts : Addr → Value → Option Addr → TS) (Wout : WX) (D : Ends) : WX := fun cls d σ H =>
  ∃ b, PySem.W.exmAny K cls cs = some b ∧
    (b = true → ∀ a, H a = none → ts a cls d { nx := fun σ' H' => D.nx (σ'.set i none) H', rt := D.rt, bk := fun σ' H' => D.bk (σ'.set i none) H', ct := fun σ' H' => D.ct (σ'.set i none) H' } (σ.set i (some (.ref a))) H) ∧ (b = false → Wout cls d σ H)
section
variable {X : Cx} {x1 x2 x3 n : Str} {c1 c2 c3 : Value} {i kt : Nat} {body suite : List Stmt} {b₀ : Stmt} {p1 p2 p3 pt pos pos' : Pos} {tb : WX → TS} {ts : Addr → Value → Option Addr → TS} {Wout : WX}
theorem ps_try_asT (stk : X.stack = X.env :: X.outer) (frm : X.env.frame = some X.env.locals) (nd : X.N.Nodup) (slot : X.N[i]? = some n) (loc : X.env.kindOf n = some .local) (n1 : Names X x1 c1) (n2 : Names X x2 c2) (n3 : Names X x3 c3) (tk : Takes X Wout)
    (inBody : ∀ (W : WX) (pn : List (Addr × Obj)) (xe : Value → Shared → Prop), Takes (X.tr pn xe) W → PassesOwn (model X.prog X.w) X.A X.env xe → PSs (X.tr pn xe) body (tb W))
    (inSuite : ∀ (a : Addr) (oe : Obj) (cls : Value) (d : Option Addr) (pn : List (Addr × Obj)), Zc cls d oe → (∃ vs, oe.data = .fields vs) → PSs (X.suite a ((a, oe) :: pn)) (b₀ :: suite) (ts a cls d)) :
    PS X (.Try body [.ExceptHandler (some (.Tuple [.Name x1 p1, .Name x2 p2, .Name x3 p3] kt pt)) (some n) (b₀ :: suite) pos'] [] [] pos) (fun D σ H => tb (wAsT X.K [c1, c2, c3] i ts Wout D) D σ H) := by
  refine ⟨fun pins s σ H D I h => ?_⟩
  have okI := I.ok
  have frs0 : X.A.frames = some (X.env :: X.outer) := by rw [okI.frames, stk]
  have vis : Loc X.env.scope n := .inl loc
  refine wpAny_Try_except ?_
  refine wpAny_mono ((inBody (wAsT X.K [c1, c2, c3] i ts Wout D) (X.pn ++ pins)
    (fun e s₁ => wpAny (model X.prog X.w) X.A (noteFrame e X.env) (fun _ s₂ => wpAny (model X.prog X.w) X.A (setFlight e none)
      (fun _ s₃ => wpAny (model X.prog X.w) X.A (handleBy e X.env [.ExceptHandler (some (.Tuple [.Name x1 p1, .Name x2 p2, .Name x3 p3] kt pt)) (some n) (b₀ :: suite) pos']) (SP X pins D) X.xe s₃) X.xe s₂) X.xe s₁)
    (fun u s' air => ?_) PassesOwn.looking).run [] s σ H D (I.toTry _) h) (fun f s1 q => ?_) (fun _ _ z => z)
  · obtain ⟨a, B, sI, pins', σ', H', cls, d, rfl, Jt, nb, up, sky, fresh, os, ag, b, hb1, yes, no⟩ := air
    have J : Inv X pins σ' H' sI := Jt.ofTry okI
    have sky1 : Sky B (X.env :: X.outer) a (Zc cls d) X.env.locals s'.heap := by rw [← stk]; exact sky
    show wpAny (model X.prog X.w) X.A (noteFrame (.ref a) X.env) _ _ _
    refine Sky.land Zc.steady frs0 frm sky1 fun g3 fl3 up3 => ?_
    have J3 : Inv X pins σ' H' { s' with heap := g3 } := J.landed nb fl3.1 (up.trans up3) os ag
    obtain ⟨oe3, vs3, at3, z3, dat3⟩ := fl3.there
    have apart : ∀ {g : Heap} {o : Obj} {vs : Array Value}, g.FunFrames B (X.env :: X.outer) → g.get? a = some o → o.data = .fields vs → a ∉ frs (X.env :: X.outer) := fun {g o vs} ff e dd hm => by
      obtain ⟨_, o', e', notf⟩ := ff.mem hm
      rw [e] at e'
      cases e'
      exact notf _ dd
    have out3 := apart fl3.2.2.1 at3 dat3
    have nl : a ≠ X.env.locals := fun z => out3 (List.mem_filterMap.mpr ⟨X.env, List.mem_cons_self, by rw [frm, z]⟩)
    have nf : a ∉ X.fs := fun hm => by
      obtain ⟨e, he, q⟩ := List.mem_filterMap.mp hm
      exact out3 (List.mem_filterMap.mpr ⟨e, List.mem_cons_of_mem _ he, q⟩)
    have S3 := J3.suite at3 dat3 fresh nl nf
    refine wpAny_handleBy_cons (codeAny_handlers_test ?_) (by intro q; cases q)
    have one : ∀ {x : Str} {c : Value} {p : Pos} {Q : Value → Shared → Prop} {E : Value → Shared → Prop}, Names X x c → Q c { s' with heap := g3 } → wpAny (model X.prog X.w) (X.A.mark (some (.ref a))) (eval (.Name x p) X.env) Q E { s' with heap := g3 } := fun {x c p Q E} nm q => by
      obtain ⟨hg, hd, hm | ⟨hm, hv, nn⟩⟩ := nm
      · exact ld_glob (X := X.suite a ((a, oe3) :: (X.pn ++ pins))) S3 hg hm q hd
      · exact ld_blt (X := X.suite a ((a, oe3) :: (X.pn ++ pins))) S3 hg hm hv q nn hd
    refine Tuple_ (Calls.spliced_cons (one n1 (Calls.spliced_cons (one n2 (Calls.spliced_cons (one n3 (Calls.spliced_nil ?_)))))))
    refine wpAny_newObj_type ?_ (by show 3 ≤ sizeLine; decide)
    have more : ∀ b o, g3.get? b = some o → (g3.push ({ cls := .type "tuple", data := .seq [c1, c2, c3].toArray } : Obj)).get? b = some o := fun b o e => Heap.get?_push_of_some _ e
    have tupAt : (g3.push ({ cls := .type "tuple", data := .seq [c1, c2, c3].toArray } : Obj)).get? g3.objs.size = some { cls := .type "tuple", data := .seq [c1, c2, c3].toArray } := Heap.get?_push_size _ rfl
    have fl5 := flying_more more fl3
    have up5 : s'.heap.UpToSlots (g3.push ({ cls := .type "tuple", data := .seq [c1, c2, c3].toArray } : Obj)) := slots_more up3 more
    have at5 := more _ _ at3
    generalize g3.push ({ cls := .type "tuple", data := .seq [c1, c2, c3].toArray } : Obj) = g5 at more tupAt fl5 up5 at5 ⊢
    have J5 : Inv X pins σ' H' { s' with heap := g5 } := J.landed nb fl5.1 (up.trans up5) os ag
    have S5 := J5.suite at5 dat3 fresh nl nf
    have typed : PySem.W.Looks (model X.prog X.w) g5 (typeOf (.ref a)) cls := fun A Q E s k q => wpAny_typeOf_ref (k _ _ at5) (by rw [z3.1]; exact q)
    refine (PySem.W.exm_tup3 (M := model X.prog X.w) J5.kIn typed tupAt hb1).here ?_
    cases b with
    | true =>
      refine codeAny_handlers_suite_as ?_
      refine HandSPX.lands_againZ fl5 fun g4 fl4 up4 => ?_
      have J4 : Inv X pins σ' H' { s' with heap := g4 } := J.landed nb fl4.1 ((up.trans up5).trans up4) os ag
      obtain ⟨oe4, vs4, at4, z4, dat4⟩ := fl4.there
      have S4 := J4.suite at4 dat4 fresh nl nf
      refine store_ok (X := X.suite a ((a, oe4) :: (X.pn ++ pins))) (v := .ref a) S4 nd slot vis rfl (fun s5 S5 => ?_) (.inr loc)
      refine wpAny_mono ((inSuite a oe4 cls d (X.pn ++ pins) z4 ⟨_, dat4⟩).run [] s5 _ H' _ S5 (yes rfl a fresh)) (fun f s6 fin => ?_) (fun _ _ z => False.elim z)
      have close : ∀ {σ6 : L2.St} {H6 : Hp} {Q : Shared → Prop}, Inv (X.suite a ((a, oe4) :: (X.pn ++ pins))) [] σ6 H6 s6 → (∀ s7, Inv X pins (σ6.set i none) H6 s7 → Q s7) →
          wpAny (model X.prog X.w) X.A (do bindName X.env n .none; unbindBehindTheSuite X.env n pos') (fun _ s7 => Q s7) X.xe s6 := fun {σ6 H6 Q} S6 hq => gone_ok (S6.unsuite okI) nd slot loc hq
      match f, fin with
      | .next, ⟨σ6, H6, S6, q6⟩ => exact close S6 fun s7 J7 => ⟨_, _, J7, q6⟩
      | .brk, ⟨σ6, H6, S6, q6⟩ => exact close S6 fun s7 J7 => ⟨_, _, J7, q6⟩
      | .cont, ⟨σ6, H6, S6, q6⟩ => exact close S6 fun s7 J7 => ⟨_, _, J7, q6⟩
      | .ret u, ⟨v6, σ6, H6, S6, r6, q6⟩ => exact close S6 fun s7 J7 => ⟨_, _, _, J7, r6, q6⟩
    | false =>
      show wpAny _ X.A (handleBy (.ref a) X.env []) _ _ _
      refine wpAny_handleBy_nil ?_
      obtain ⟨k1, k2, k3, oe, vs, T, oT, ts', he, hz, hd, h1, hr⟩ := id fl5
      unfold PySem.passOn
      refine wpAny_bind (wpAny_field he hd h1 ?_)
      rw [if_neg (by simp)]
      have leave : wpAny (model X.prog X.w) X.A (setFlight (.ref a) X.env.frame) (fun _ s4 => wpAny (model X.prog X.w) X.A (throw (.ref a) : Sem Flow) (SP X pins D) X.xe s4) X.xe { s' with heap := g5 } := by
        rw [frm]
        refine HandSPX.setFlight_upZ fl5 fun g4 held up4 => wpAny_throw (tk _ _ ?_)
        exact ⟨a, B, sI, pins, σ', H', cls, d, rfl, J, nb, (up.trans up5).trans up4, .inr (.inr (by rw [stk]; exact held)), fresh, os, ag, no rfl⟩
      first
        | exact wpAny_bind (wpAny_pure (wpAny_bind leave))
        | exact wpAny_bind leave
  · match f, q with
    | .next, ⟨σ', H', J', q⟩ => exact wpAny_execs_nil ⟨σ', H', J'.ofTry okI, q⟩
    | .brk, ⟨σ', H', J', q⟩ => exact ⟨σ', H', J'.ofTry okI, q⟩
    | .cont, ⟨σ', H', J', q⟩ => exact ⟨σ', H', J'.ofTry okI, q⟩
    | .ret u, ⟨v, σ', H', J', r, q⟩ => exact ⟨v, σ', H', J'.ofTry okI, r, q⟩
end
end MH
/-! Caught exceptions as objects of the tracked heap; defs that are called within an except suite. -/
namespace MH
open PySem PySem.Spec PyProof.Rows L2

/-! ### a caught exception -/
def exk (a C d : Addr) : HO := .ext fun h => ∃ (o : Obj) (vs : Array Value), h.get? a = some o ∧ o.cls = .ref C ∧ o.dict = some d ∧ o.data = .fields vs
theorem exk_ok {P : Program} {w : World} {H : Hp} {h : Heap} {a C d : Addr} {o : Obj} {vs : Array Value} (h1 : h.get? a = some o) (h2 : o.cls = .ref C) (h3 : o.dict = some d) (h4 : o.data = .fields vs) : ObjOk P w H h a (exk a C d) :=
  ⟨⟨o, vs, h1, h2, h3, h4⟩, ⟨o, h1⟩, fun x y z k => by
    obtain ⟨o, vs, q, r⟩ := z
    exact ⟨o, vs, k _ q, r⟩⟩
theorem exk_at {P : Program} {w : World} {H : Hp} {h : Heap} {a C d : Addr} (hok : HOk P w H h) (he : H a = some (exk a C d)) : ∃ (o : Obj) (vs : Array Value), h.get? a = some o ∧ o.cls = .ref C ∧ o.dict = some d ∧ o.data = .fields vs := by
  have x : ObjOk P w H h a (.ext fun h => ∃ (o : Obj) (vs : Array Value), h.get? a = some o ∧ o.cls = .ref C ∧ o.dict = some d ∧ o.data = .fields vs) := hok a _ he
  exact x.1
section
variable {X : Cx} {pins : List (Addr × Obj)} {σ : L2.St} {H : Hp} {s : Shared}
/-- an object that stands, made since the entry, is told from now on -/
theorem _root_.L2.Inv.track {a : Addr} {o : HO} (I : Inv X pins σ H s) (n0 : X.s_0.heap.get? a = none) (na : H a = none) (nl : X.env.locals ≠ a) (nc : ∀ x c, X.env.cells.lookup x = some c → c ≠ a) (np : ∀ p ∈ X.pn ++ pins, p.1 ≠ a)
    (new : ObjOk X.prog X.w (upd H a o) s.heap a o) : Inv X pins σ (upd H a o) s := by
  have n0' : ∀ {b : Addr} {ob : Obj}, X.s_0.heap.get? b = some ob → b ≠ a := fun {b ob} e z => by
    rw [z, n0] at e
    cases e
  refine ⟨I.ok, I.os, I.bare, ⟨I.base.keep, I.base.slot, fun b ob e n hx => ?_, I.base.there, fun b xs e => ?_, fun b ob u e => ?_, fun b ps e => ?_⟩, I.loc, I.cell, ?_, fun x c e => ?_, fun p hp => ?_, fun b ob e => ?_, I.len⟩
  · rw [upd_ne (n0' e)]
    exact I.base.free b ob e n hx
  · have q := I.base.tups b xs e
    rw [upd_ne (ne_of_none q na)]
    exact q
  · have q := I.base.frzs b ob u e
    rw [upd_ne (ne_of_none q na)]
    exact q
  · obtain ⟨m, q⟩ := I.base.tbls b ps e
    exact ⟨m, by rw [upd_ne (ne_of_none q na)]; exact q⟩
  · rw [upd_ne nl]
    exact I.free
  · rw [upd_ne (nc x c e)]
    exact I.freeC x c e
  · obtain ⟨h1, h2, h3⟩ := I.pin p hp
    exact ⟨h1, by rw [upd_ne (np p hp)]; exact h2, h3⟩
  · by_cases hb : b = a
    · subst hb
      rw [upd_same] at e
      cases e
      exact new
    · rw [upd_ne hb] at e
      exact (I.hok b ob e).stay (fun c v _ z => z) (fun c hc => by rw [upd_ne (ne_of_none hc na)]; exact hc) fun c xs hc => by rw [upd_ne (ne_of_none hc na)]; exact hc
theorem _root_.L2.Inv.suiteK (I : Inv X pins σ H s) (a : Addr) : Inv (X.suite a (X.pn ++ pins)) [] σ H s :=
  ⟨I.ok.suite _ _, I.os, I.bare, I.base, I.loc, I.cell, I.free, I.freeC, fun p hp => by
    have hp' : p ∈ X.pn ++ pins := by
      rw [List.append_nil] at hp
      exact hp
    exact I.pin p hp', I.hok, I.len⟩
theorem _root_.L2.Inv.unsuiteK {a : Addr} {pn' : List (Addr × Obj)} (I : Inv (X.suite a (X.pn ++ pins)) pn' σ H s) (ok : X.Ok) : Inv X pins σ H s :=
  ⟨ok, I.os, I.bare, I.base, I.loc, I.cell, I.free, I.freeC, fun p hp => I.pin p (List.mem_append_left _ hp), I.hok, I.len⟩
end

/-! ### try: body, except (A, B, C) as n: suite -/
def wAsK (K : PySem.W.Frag) (cs : List Value) (n i : Nat) (ts : TS) (Wout : WX) (D : Ends) : WX := fun cls d σ H =>
  ∃ b, PySem.W.exmAny K cls cs = some b ∧
    (b = true → ∃ C dd, cls = .ref C ∧ d = some dd ∧ ∀ a, σ.length = n → H a = none → ts { nx := fun σ' H' => D.nx (σ'.set i none) H', rt := D.rt, bk := fun σ' H' => D.bk (σ'.set i none) H', ct := fun σ' H' => D.ct (σ'.set i none) H' } (σ.set i (some (.ref a))) (upd H a (exk a C dd))) ∧ (b = false → Wout cls d σ H)
section
variable {X : Cx} {x1 x2 x3 n : Str} {c1 c2 c3 : Value} {i kt : Nat} {body suite : List Stmt} {b₀ : Stmt} {p1 p2 p3 pt pos pos' : Pos} {tb : WX → TS} {ts : TS} {Wout : WX}
theorem ps_try_asK (stk : X.stack = X.env :: X.outer) (frm : X.env.frame = some X.env.locals) (hex : X.ex = []) (nd : X.N.Nodup) (slot : X.N[i]? = some n) (loc : X.env.kindOf n = some .local) (n1 : Names X x1 c1) (n2 : Names X x2 c2) (n3 : Names X x3 c3) (tk : Takes X Wout)
    (inBody : ∀ (W : WX) (pn : List (Addr × Obj)) (xe : Value → Shared → Prop), Takes (X.tr pn xe) W → PassesOwn (model X.prog X.w) X.A X.env xe → PSs (X.tr pn xe) body (tb W))
    (inSuite : ∀ (a : Addr) (pn : List (Addr × Obj)), PSs (X.suite a pn) (b₀ :: suite) ts) :
    PS X (.Try body [.ExceptHandler (some (.Tuple [.Name x1 p1, .Name x2 p2, .Name x3 p3] kt pt)) (some n) (b₀ :: suite) pos'] [] [] pos) (fun D σ H => tb (wAsK X.K [c1, c2, c3] X.N.length i ts Wout D) D σ H) := by
  refine ⟨fun pins s σ H D I h => ?_⟩
  have okI := I.ok
  have frs0 : X.A.frames = some (X.env :: X.outer) := by rw [okI.frames, stk]
  have vis : Loc X.env.scope n := .inl loc
  refine wpAny_Try_except ?_
  refine wpAny_mono ((inBody (wAsK X.K [c1, c2, c3] X.N.length i ts Wout D) (X.pn ++ pins)
    (fun e s₁ => wpAny (model X.prog X.w) X.A (noteFrame e X.env) (fun _ s₂ => wpAny (model X.prog X.w) X.A (setFlight e none)
      (fun _ s₃ => wpAny (model X.prog X.w) X.A (handleBy e X.env [.ExceptHandler (some (.Tuple [.Name x1 p1, .Name x2 p2, .Name x3 p3] kt pt)) (some n) (b₀ :: suite) pos']) (SP X pins D) X.xe s₃) X.xe s₂) X.xe s₁)
    (fun u s' air => ?_) PassesOwn.looking).run [] s σ H D (I.toTry _) h) (fun f s1 q => ?_) (fun _ _ z => z)
  · obtain ⟨a, B, sI, pins', σ', H', cls, d, rfl, Jt, nb, up, sky, fresh, os, ag, b, hb1, yes, no⟩ := air
    have J : Inv X pins σ' H' sI := Jt.ofTry okI
    have sky1 : Sky B (X.env :: X.outer) a (Zc cls d) X.env.locals s'.heap := by rw [← stk]; exact sky
    show wpAny (model X.prog X.w) X.A (noteFrame (.ref a) X.env) _ _ _
    refine Sky.land Zc.steady frs0 frm sky1 fun g3 fl3 up3 => ?_
    have J3 : Inv X pins σ' H' { s' with heap := g3 } := J.landed nb fl3.1 (up.trans up3) os ag
    obtain ⟨oe3, vs3, at3, z3, dat3⟩ := fl3.there
    have apart : ∀ {g : Heap} {o : Obj} {vs : Array Value}, g.FunFrames B (X.env :: X.outer) → g.get? a = some o → o.data = .fields vs → a ∉ frs (X.env :: X.outer) := fun {g o vs} ff e dd hm => by
      obtain ⟨_, o', e', notf⟩ := ff.mem hm
      rw [e] at e'
      cases e'
      exact notf _ dd
    have out3 := apart fl3.2.2.1 at3 dat3
    have nl : a ≠ X.env.locals := fun z => out3 (List.mem_filterMap.mpr ⟨X.env, List.mem_cons_self, by rw [frm, z]⟩)
    have nf : a ∉ X.fs := fun hm => by
      obtain ⟨e, he, q⟩ := List.mem_filterMap.mp hm
      exact out3 (List.mem_filterMap.mpr ⟨e, List.mem_cons_of_mem _ he, q⟩)
    have newI : sI.heap.get? a = none := by
      cases q : sI.heap.get? a with
      | none => rfl
      | some o =>
        have z := nb a o q (by rw [stk]; exact out3)
        rw [fl3.2.1] at z
        cases z
    have new0 : X.s_0.heap.get? a = none := by
      cases q : X.s_0.heap.get? a with
      | none => rfl
      | some o =>
        obtain ⟨o', z⟩ := J.base.there a o q (by rw [hex]; simp)
        rw [newI] at z
        cases z
    have S3 := J3.suite at3 dat3 fresh nl nf
    refine wpAny_handleBy_cons (codeAny_handlers_test ?_) (by intro q; cases q)
    have one : ∀ {x : Str} {c : Value} {p : Pos} {Q : Value → Shared → Prop} {E : Value → Shared → Prop}, Names X x c → Q c { s' with heap := g3 } → wpAny (model X.prog X.w) (X.A.mark (some (.ref a))) (eval (.Name x p) X.env) Q E { s' with heap := g3 } := fun {x c p Q E} nm q => by
      obtain ⟨hg, hd, hm | ⟨hm, hv, nn⟩⟩ := nm
      · exact ld_glob (X := X.suite a ((a, oe3) :: (X.pn ++ pins))) S3 hg hm q hd
      · exact ld_blt (X := X.suite a ((a, oe3) :: (X.pn ++ pins))) S3 hg hm hv q nn hd
    refine Tuple_ (Calls.spliced_cons (one n1 (Calls.spliced_cons (one n2 (Calls.spliced_cons (one n3 (Calls.spliced_nil ?_)))))))
    refine wpAny_newObj_type ?_ (by show 3 ≤ sizeLine; decide)
    have more : ∀ b o, g3.get? b = some o → (g3.push ({ cls := .type "tuple", data := .seq [c1, c2, c3].toArray } : Obj)).get? b = some o := fun b o e => Heap.get?_push_of_some _ e
    have tupAt : (g3.push ({ cls := .type "tuple", data := .seq [c1, c2, c3].toArray } : Obj)).get? g3.objs.size = some { cls := .type "tuple", data := .seq [c1, c2, c3].toArray } := Heap.get?_push_size _ rfl
    have fl5 := flying_more more fl3
    have up5 : s'.heap.UpToSlots (g3.push ({ cls := .type "tuple", data := .seq [c1, c2, c3].toArray } : Obj)) := slots_more up3 more
    have at5 := more _ _ at3
    generalize g3.push ({ cls := .type "tuple", data := .seq [c1, c2, c3].toArray } : Obj) = g5 at more tupAt fl5 up5 at5 ⊢
    have J5 : Inv X pins σ' H' { s' with heap := g5 } := J.landed nb fl5.1 (up.trans up5) os ag
    have S5 := J5.suite at5 dat3 fresh nl nf
    have typed : PySem.W.Looks (model X.prog X.w) g5 (typeOf (.ref a)) cls := fun A Q E s k q => wpAny_typeOf_ref (k _ _ at5) (by rw [z3.1]; exact q)
    refine (PySem.W.exm_tup3 (M := model X.prog X.w) J5.kIn typed tupAt hb1).here ?_
    cases b with
    | true =>
      obtain ⟨C, dd, ecls, ed, yes⟩ := yes rfl
      refine codeAny_handlers_suite_as ?_
      refine HandSPX.lands_againZ fl5 fun g4 fl4 up4 => ?_
      have J4 : Inv X pins σ' H' { s' with heap := g4 } := J.landed nb fl4.1 ((up.trans up5).trans up4) os ag
      obtain ⟨oe4, vs4, at4, z4, dat4⟩ := fl4.there
      have T4 : Inv X pins σ' (upd H' a (exk a C dd)) { s' with heap := g4 } := by
        refine J4.track new0 fresh nl.symm (fun x c e z => ?_) (fun p hp z => ?_) (exk_ok at4 (z4.1.trans ecls) (z4.2.trans ed) dat4)
        · obtain ⟨v, o, ho, hd⟩ := J4.cell x c e
          rw [z] at ho
          have z2 := ho.symm.trans at4
          cases z2
          rw [dat4] at hd
          cases hd
        · have q := (J.pin p hp).1
          rw [z, newI] at q
          cases q
      have S4 := T4.suiteK a
      refine store_ok (X := X.suite a (X.pn ++ pins)) (v := .ref a) S4 nd slot vis rfl (fun s5 S5 => ?_) (.inr loc)
      refine wpAny_mono ((inSuite a (X.pn ++ pins)).run [] s5 _ _ _ S5 (yes a J4.len fresh)) (fun f s6 fin => ?_) (fun _ _ z => False.elim z)
      have close : ∀ {σ6 : L2.St} {H6 : Hp} {Q : Shared → Prop}, Inv (X.suite a (X.pn ++ pins)) [] σ6 H6 s6 → (∀ s7, Inv X pins (σ6.set i none) H6 s7 → Q s7) →
          wpAny (model X.prog X.w) X.A (do bindName X.env n .none; unbindBehindTheSuite X.env n pos') (fun _ s7 => Q s7) X.xe s6 := fun {σ6 H6 Q} S6 hq => gone_ok (S6.unsuiteK okI) nd slot loc hq
      match f, fin with
      | .next, ⟨σ6, H6, S6, q6⟩ => exact close S6 fun s7 J7 => ⟨_, _, J7, q6⟩
      | .brk, ⟨σ6, H6, S6, q6⟩ => exact close S6 fun s7 J7 => ⟨_, _, J7, q6⟩
      | .cont, ⟨σ6, H6, S6, q6⟩ => exact close S6 fun s7 J7 => ⟨_, _, J7, q6⟩
      | .ret u, ⟨v6, σ6, H6, S6, r6, q6⟩ => exact close S6 fun s7 J7 => ⟨_, _, _, J7, r6, q6⟩
    | false =>
      show wpAny _ X.A (handleBy (.ref a) X.env []) _ _ _
      refine wpAny_handleBy_nil ?_
      obtain ⟨k1, k2, k3, oe, vs, T, oT, ts', he, hz, hd, h1, hr⟩ := id fl5
      unfold PySem.passOn
      refine wpAny_bind (wpAny_field he hd h1 ?_)
      rw [if_neg (by simp)]
      have leave : wpAny (model X.prog X.w) X.A (setFlight (.ref a) X.env.frame) (fun _ s4 => wpAny (model X.prog X.w) X.A (throw (.ref a) : Sem Flow) (SP X pins D) X.xe s4) X.xe { s' with heap := g5 } := by
        rw [frm]
        refine HandSPX.setFlight_upZ fl5 fun g4 held up4 => wpAny_throw (tk _ _ ?_)
        exact ⟨a, B, sI, pins, σ', H', cls, d, rfl, J, nb, (up.trans up5).trans up4, .inr (.inr (by rw [stk]; exact held)), fresh, os, ag, no rfl⟩
      first
        | exact wpAny_bind (wpAny_pure (wpAny_bind leave))
        | exact wpAny_bind leave
  · match f, q with
    | .next, ⟨σ', H', J', q⟩ => exact wpAny_execs_nil ⟨σ', H', J'.ofTry okI, q⟩
    | .brk, ⟨σ', H', J', q⟩ => exact ⟨σ', H', J'.ofTry okI, q⟩
    | .cont, ⟨σ', H', J', q⟩ => exact ⟨σ', H', J'.ofTry okI, q⟩
    | .ret u, ⟨v, σ', H', J', r, q⟩ => exact ⟨v, σ', H', J'.ofTry okI, r, q⟩
end

/-! ### promises of defs that are called within a suite (whatever is handled), while no repr is under way -/
def FnK (P : Program) (w : World) (K : PySem.W.Frag) (mg : Str → Option Value) (base : Heap) (k : Nat) (f : Addr) (sp : Sp) : Prop :=
  ∀ (A : Around) (fr : List Env) (st : Shared) (H : Hp) (us : List Value) (vs : List V) (Q : VK), A.guards = some [] → L2H.RoomH k A → Env0 P w K mg base A fr st H → Vals vs us →
    sp vs H Q E0 → codeAny (model P w) A (.call (.ref f) ⟨us, []⟩) (CR CX0 fr P w H st Q E0) st
/-- the context of such a def's body -/
def cxK (P : Program) (w : World) (K : PySem.W.Frag) (mg : Str → Option Value) (base : Heap) (N : List Str) (qual : Str) (scope : Scope) (f : Addr) (cd : Value) (A : Around) (outer : List Env) (s : Shared) (H : Hp) : Cx :=
  { cxOf CX0 P w K mg base N qual scope f cd A outer s H E0 with calm := false }
theorem inv_startK {P : Program} {w : World} {K : PySem.W.Frag} {mg : Str → Option Value} {base : Heap} {N ps : List Str} {qual : Str} {scope : Scope} {f : Addr} {cd : Value} {A : Around} {outer : List Env} {s s1 : Shared} {H : Hp} {us : List Value} {vs : List V}
    (S : FnScope N ps scope) (e0 : Env0 P w K mg base A outer s H) (hl : vs.length = ps.length) (r : Vals vs us)
    (x : InCallC s s.heap.objs.size (bindL (envOfC qual scope s.heap.objs.size f cd).kindOf (ps.zip us) fun _ => none) (cellsFrom (s.heap.objs.size + 1) scope.names []) (bindC (envOfC qual scope s.heap.objs.size f cd).kindOf (ps.zip us) fun _ => none) s1) :
    Inv (cxK P w K mg base N qual scope f cd A outer s H) [] (L2.start N vs) H s1 := by
  -- as if nothing were handled: of the surroundings the invariant knows the frames alone
  have calmer : Env0 P w K mg base { A with handled := none } outer s H := ⟨e0.frames, e0.mod, e0.bs, e0.bsz, e0.funs, e0.frf, e0.hok, e0.bare⟩
  have I := inv_start (CX := CX0) (E := E0) S (A := { A with handled := none }) rfl calmer hl r x
  exact ⟨⟨I.ok.mod, I.ok.kind, I.ok.glob, I.ok.blt, I.ok.above, I.ok.inj, I.ok.has, I.ok.cab, (fun z => (nomatch (show false = true from z))), I.ok.frames, I.ok.stk, I.ok.exf, I.ok.bs, I.ok.bsz, I.ok.noex, I.ok.exfs, I.ok.funs, I.ok.frf⟩,
    I.os, I.bare, I.base, I.loc, I.cell, I.free, I.freeC, I.pin, I.hok, I.len⟩
section
variable {P : Program} {w : World} {K : PySem.W.Frag} {mg : Str → Option Value} {base : Heap} {k : Nat} {f : Addr} {sp : Sp}
theorem FnK.mono {j : Nat} (F : FnK P w K mg base j f sp) (h : j ≤ k) : FnK P w K mg base k f sp := fun A fr st H us vs Q hg hr => F A fr st H us vs Q hg (hr.mono h)
theorem fk_of {name qual : Str} {pms : Arguments} {body : List Stmt} {sc : Scope} {dV kV doc pm cdv ct oc : Value} {an od : Option Addr} {osl : Array (Option Value)} {N ps : List Str}
    (lk : K.lookup f = some ⟨oc, od, .func (PySem.W.fnOf name qual pms body sc dV kV doc pm an cdv ct), osl⟩) (hc : PySem.W.codeIn K cdv qual = true) (S : FnScope N ps sc)
    (hB : Binds K (PySem.W.fnOf name qual pms body sc dV kV doc pm an cdv ct) ps []) (hlen : ∀ vs H Q E, sp vs H Q E → vs.length = ps.length)
    (hbd : ∀ (A : Around) (fr : List Env) (st : Shared) (H : Hp) (vs : List V) (Q : VK), A.guards = some [] → L2H.RoomH k (A.deeper (envOfC qual sc st.heap.objs.size f cdv)) → sp vs H Q E0 →
      ∃ t, PSs (cxK P w K mg base N qual sc f cdv A fr st H).nox body t ∧ t { nx := fun _ H' => Q .non H', rt := Q } (start N vs) H) :
    FnK P w K mg base (k + 1) f sp := by
  intro A fr st H us vs Q hg hr e0 r hs
  have hl := hlen _ _ _ _ hs
  have hul : (us ++ []).length = ps.length := by
    rw [List.append_nil, ← r.length, hl]
  have KX : K.In st.heap := e0.mod.kin.keeps fun b o e => (e0.bs b o e).1
  have nl : st.heap.NoLimit := e0.mod.nolimit.keeps fun b o e => (e0.bs b o e).1
  have hk : ∀ y ∈ ps.zip us, sc.names.lookup y.1 = some .local ∨ (sc.names.lookup y.1 = some .cell ∧ ((cellsFrom (st.heap.objs.size + 1) sc.names []).lookup y.1).isSome = true) := by
    intro y hy
    rcases S.par y.1 (List.of_mem_zip hy).1 with q | q
    · exact .inl q
    · exact .inr ⟨q, PySem.W.cellsFrom_some _ _ _ (.inl q)⟩
  have hb2 := hB st us KX hul
  rw [List.append_nil] at hb2
  refine codeAny_call_function hr.depth (KX _ _ lk) rfl S.co S.gen rfl (PySem.W.codeRec_of KX hc) (hb2 _ _ _ _ ?_)
  refine wpAny_newFunctionEnv_cells S.kind hk fun env he s1 x => ?_
  subst he
  refine ⟨nl.keeps x.toInCall.keep, codeAny_func ?_⟩
  obtain ⟨t, ht, hq⟩ := hbd A fr st H vs Q hg (hr.deeper _) hs
  have J : Inv (cxK P w K mg base N qual sc f cdv A fr st H) [] (start N vs) H s1 := inv_startK S e0 hl r x
  refine wpAny_mono (ht.nox.run [] s1 (start N vs) H _ J hq) (fun fl s' hz => ?_) fun e s' hz => hz
  cases fl with
  | ret u =>
    obtain ⟨v, σ', H', J', rv, q⟩ := hz
    exact ⟨v, H', J'.os, J'.bare, J'.base, J'.hok, rv, q⟩
  | next =>
    obtain ⟨σ', H', J', q⟩ := hz
    exact ⟨.non, H', J'.os, J'.bare, J'.base, J'.hok, rfl, q⟩
  | brk => exact (hz.choose_spec.choose_spec.2 : False).elim
  | cont => exact (hz.choose_spec.choose_spec.2 : False).elim
theorem fun_k {x qual : Str} {st : Stmt} {fd : FuncData} {N ps : List Str} (F : Fun K x qual st f fd) (S : FnScope N ps (defScope st)) (hB : Binds K fd ps []) (hlen : ∀ vs H Q E, sp vs H Q E → vs.length = ps.length)
    (hbd : ∀ (cdv : Value) (A : Around) (fr : List Env) (s : Shared) (H : Hp) (vs : List V) (Q : VK), A.guards = some [] → L2H.RoomH k (A.deeper (envOfC qual (defScope st) s.heap.objs.size f cdv)) → sp vs H Q E0 →
      ∃ t, PSs (cxK P w K mg base N qual (defScope st) f cdv A fr s H).nox (defBody st) t ∧ t { nx := fun _ H' => Q .non H', rt := Q } (start N vs) H) :
    FnK P w K mg base (k + 1) f sp := by
  obtain ⟨oc, od, kV, doc, pm, an, cdv, ct, osl, rfl, lk, hc⟩ := F.ex
  exact fk_of lk hc S hB hlen fun A fr s H vs Q hg hr hs => hbd cdv A fr s H vs Q hg hr hs
end
section
variable {X : Cx} {k : Nat} {f : Addr} {sp : Sp} {x : Str} {p pos : Pos} {e : Expr} {es : List Expr} {t : TA}
/-- f(e, ..) in a suite -/
theorem pe_callk (F : FnK X.prog X.w X.K X.mg X.base k f sp) (hg : X.A.guards = some []) (hr : L2H.RoomH k X.A) (gl : Gl X x) (hm : X.mg x = some (.ref f)) (hk : PySem.W.keepIn X.K (.ref f) = true)
    (ha : PA X (e :: es) t) (hdb : (x == ("__debug__" : Str)) = false := by decide) (he : starEach (e :: es) X.env = (false, eval e X.env) :: starEach es X.env := by rfl) (hpl : (backTo pos (starEach es X.env)).any (·.1) = false := by rfl) :
    PE X (.Call (.Name x p) (e :: es) [] pos) (tCall sp [] E0 t) := by
  refine ⟨fun pins s σ H Q I h => ?_⟩
  refine wpAny_Call_Name_kw (ld_glob I gl hm ?_ hdb)
  refine PySem.W.callWith_K (h₀ := X.base) I.ok.mod.kin hk (thn (ha.run pos pins s σ H _ I h) fun us s1 ⟨vs, H1, I1, r, q⟩ => ⟨I1.kIn, ?_⟩) he hpl
  have q1 : sp vs H1 Q E0 := by
    have z : sp (vs ++ []) H1 Q E0 := q
    rw [List.append_nil] at z
    exact z
  refine wpAny_call (codeAny_mono (F X.A X.stack s1 H1 us vs Q hg hr I1.env0 r q1) fun r s' hq => ?_)
  match r, hq with
  | .ok (.ret u), hq => exact I1.after hq
  | .ok .next, hq => exact False.elim hq
  | .ok .brk, hq => exact False.elim hq
  | .ok .cont, hq => exact False.elim hq
  | .error _, hq => exact False.elim hq
end
/-! ### isinstance and fields of a caught exception -/
/-- the exception at a: its class, its dict, its fields -/
def ExAt (H : Hp) (a C : Addr) (fs : List (Str × V)) : Prop := ∃ d, H a = some (exk a C d) ∧ H d = some (.xd fs)
/-- what its class says -/
structure ExcK (K : PySem.W.Frag) (D : Addr) : Prop where
  cl : (PySem.W.clsIn K D).isSome = true
  hg : PySem.W.findIn K (.ref D) "__getattribute__" = some (some (.builtin "BaseException.__getattribute__"))
  hk : PySem.W.findIn K (.ref D) "__getattr__" = some none
  hs : PySem.W.subIn K (.ref D) (.type "BaseException") = some true
  hd : PySem.W.hasDictIn K D = true
  ha : PySem.W.findIn K (.ref D) "__class__" = some (some (.builtin "object.__class__"))
  hn : PySem.W.specialIn K (.builtin "object.__class__") "__get__" = some (some (.builtin "getset_descriptor.__get__"))
  ht : PySem.W.takesIn K (.builtin "object.__class__") = some true
  hm : PySem.W.mroIn K D (.type "object") = some true
theorem ExAt.inst {X : Cx} {pins : List (Addr × Obj)} {σ : L2.St} {H : Hp} {s : Shared} {a C : Addr} {fs : List (Str × V)} (I : Inv X pins σ H s) (e : ExAt H a C fs) :
    ∃ (d : Addr) (o od : Obj), PySem.W.InstAt s.heap a o C (some od) ∧ H d = some (.xd fs) ∧ o.dict = some d ∧ s.heap.get? d = some od := by
  obtain ⟨d, e1, e2⟩ := e
  obtain ⟨o, vs, h1, h2, h3, h4⟩ := exk_at I.hok e1
  have hx : ObjOk X.prog X.w H s.heap d (.xd fs) := I.hok d _ e2
  obtain ⟨mA, hns, hr⟩ := hx
  obtain ⟨od, es, ep, ho, _⟩ := id hns
  exact ⟨d, o, od, ⟨h1, h2, by unfold PySem.W.notCls; rw [h4] <;> rfl, by rw [h3]; exact ho⟩, e2, h3, ho⟩
def rIsK (K : PySem.W.Frag) : List V → Hp → VK → Prop := fun xs H Q => ∃ (a C : Addr) (fs : List (Str × V)) (c : V) (cv : Value) (b : Bool), xs = [.ref a, c] ∧ ExAt H a C fs ∧ ExcK K C ∧ (∀ u, RelV c u → u = cv) ∧ PySem.W.kitOne K (.ref C) cv = some b ∧ Q (.bl b) H
theorem call_isK {X : Cx} : CallR X (.builtin "isinstance") (rIsK X.K) := by
  intro pins s σ H xs us Q I r h
  obtain ⟨a, C, fs, c, cv, b, rfl, e, T, hcv, ek, q⟩ := h
  cases r with
  | cons rx rr =>
    cases rr with
    | cons rt rr =>
      cases rr
      cases rx
      have ec := hcv _ rt
      subst ec
      obtain ⟨d, o, od, J, _⟩ := e.inst I
      exact PySem.W.kia_one (PySem.W.kitx_exc T.cl T.hg T.hk T.hs T.ha T.hn T.ht T.hm) I.kIn J ek (fun z => nomatch z) fun tk => ⟨.bl b, H, I.kept (t' := tk) fun _ _ z => z, rfl, q⟩
def tXk (K : PySem.W.Frag) (f : Str) (te : TE) : TE := fun σ H Q => te σ H fun x H1 => ∃ (a C : Addr) (fs : List (Str × V)) (v : V), x = .ref a ∧ ExAt H1 a C fs ∧ ExcK K C ∧ PySem.W.findIn K (.ref C) f = some none ∧ fs.lookup f = some v ∧ Q v H1
theorem pe_xk {X : Cx} {e : Expr} {te : TE} {pos : Pos} {n : Str} (he : PE X e te) (hb : attributeBase e n X.env (eval e X.env) = eval e X.env := by rfl) : PE X (.Attribute e n pos) (tXk X.K n te) := by
  refine ⟨fun pins s σ H Q I h => ?_⟩
  refine attr_of hb (thn (he.run pins s σ H _ I h) fun u s1 hh => ?_)
  obtain ⟨x, H1, I1, rx, a, C, fs, v, ex, ea, T, hno, l, q⟩ := hh
  subst ex
  obtain rfl : u = Value.ref a := rx
  obtain ⟨d, o, od, J, e2, ed, eo⟩ := ea.inst I1
  have hx : ObjOk X.prog X.w H1 s1.heap d (.xd fs) := I1.hok d _ e2
  obtain ⟨mA, hns, hr⟩ := hx
  obtain ⟨od', ho, hl⟩ := lookIn_ns hns
  obtain rfl : od' = od := Option.some.inj (ho.symm.trans eo)
  obtain ⟨u, hu, ru⟩ := RelO.some_of (v := v) (o := mA n) (by rw [← l]; exact hr n)
  exact HandSPX.exc_get I1.kIn J T.hg T.hk T.hs (PySem.W.findObj_own T.hd hno rfl (by rw [hl, hu])) (handed_of ru) ⟨v, H1, I1.tok _, ru, q⟩
end MH
/-! repr of values of many kinds; list.count of truths; the signs of what repr shows. -/
namespace MH
open PySem PySem.Spec PyProof.Rows L2

/-! ### signs -/
def SgOk (z : Str) : Prop := ∀ c ∈ z.cps.toList, c < 0x110000
theorem sg_iff {z : Str} : PyData.strOk z = true ↔ SgOk z := by
  unfold PyData.strOk SgOk
  rw [← Array.all_toList, List.all_eq_true]
  exact ⟨fun h c hc => of_decide_eq_true (h c hc), fun h c hc => decide_eq_true (h c hc)⟩
theorem sg_append {x y : Str} (a : SgOk x) (b : SgOk y) : SgOk (x ++ y) := by
  intro c hc
  have hc' : c ∈ (x.cps ++ y.cps).toList := hc
  rw [Array.toList_append, List.mem_append] at hc'
  exact hc'.elim (a c) (b c)
theorem char_lt (c : Char) : c.toNat < 0x110000 := by
  have h := c.valid
  have e : c.toNat = c.val.toNat := rfl
  rcases h with h | h
  · rw [e]
    have h' : c.val.toNat < 0xd800 := h
    omega
  · rw [e]
    exact h.2
theorem sg_ofString (s : String) : SgOk (Str.ofString s) := by
  intro c hc
  rw [Str.ofString_eq_toList] at hc
  have hc' : c ∈ s.toList.map Char.toNat := by simpa using hc
  obtain ⟨d, _, rfl⟩ := List.mem_map.mp hc'
  exact char_lt d
theorem sg_join {sep : Str} (h : SgOk sep) : ∀ {l : List Str}, (∀ z ∈ l, SgOk z) → SgOk (Str.join sep l)
  | [], _ => fun c hc => by simp [Str.join, Str.empty] at hc
  | [x], hl => hl x List.mem_cons_self
  | x :: y :: r, hl => by
    show SgOk (x ++ sep ++ Str.join sep (y :: r))
    exact sg_append (sg_append (hl x List.mem_cons_self) h) (sg_join h fun z hz => hl z (List.mem_cons_of_mem _ hz))
theorem sg_reprChar {q c : Nat} (hc : c < 0x110000) : ∀ y ∈ Builtin.Str.reprChar q c, y < 0x110000 := by
  have hx : ∀ w : Nat, ∀ y ∈ List.replicate (w - ((Nat.toDigits 16 c).map Char.toNat).length) 48 ++ (Nat.toDigits 16 c).map Char.toNat, y < 0x110000 := by
    intro w y hy
    rcases List.mem_append.mp hy with hy | hy
    · have := (List.mem_replicate.mp hy).2
      omega
    · obtain ⟨d, _, rfl⟩ := List.mem_map.mp hy
      exact char_lt d
  unfold Builtin.Str.reprChar
  dsimp only
  intro y hy
  have two : ∀ {a b : Nat} {w : Nat}, a < 0x110000 → b < 0x110000 → y ∈ [a, b] ++ (List.replicate (w - ((Nat.toDigits 16 c).map Char.toNat).length) 48 ++ (Nat.toDigits 16 c).map Char.toNat) → y < 0x110000 := by
    intro a b w ha hb hm
    rcases List.mem_append.mp hm with hm | hm
    · rcases List.mem_cons.mp hm with rfl | hm
      · exact ha
      · rw [List.mem_singleton.mp hm]
        exact hb
    · exact hx w y hm
  have lit : ∀ {a b : Nat}, a < 0x110000 → b < 0x110000 → y ∈ [a, b] → y < 0x110000 := by
    intro a b ha hb hm
    rcases List.mem_cons.mp hm with rfl | hm
    · exact ha
    · rw [List.mem_singleton.mp hm]
      exact hb
  split at hy
  · rcases List.mem_cons.mp hy with rfl | hm
    · decide
    · rw [List.mem_singleton.mp hm]
      exact hc
  · split at hy
    · exact lit (by decide) (by decide) hy
    · split at hy
      · exact lit (by decide) (by decide) hy
      · split at hy
        · exact lit (by decide) (by decide) hy
        · split at hy
          · rw [List.mem_singleton.mp hy]
            exact hc
          · split at hy
            · exact two (by decide) (by decide) hy
            · split at hy
              · exact two (by decide) (by decide) hy
              · exact two (by decide) (by decide) hy
theorem sg_foldl (q : Nat) : ∀ (l : List Nat) (acc : Array Nat), (∀ c ∈ l, c < 0x110000) → (∀ c ∈ acc.toList, c < 0x110000) → ∀ c ∈ (l.foldl (fun out c => out ++ (Builtin.Str.reprChar q c).toArray) acc).toList, c < 0x110000
  | [], acc, _, ha => ha
  | d :: l, acc, hl, ha => by
    rw [List.foldl_cons]
    refine sg_foldl q l _ (fun c hc => hl c (List.mem_cons_of_mem _ hc)) fun c hc => ?_
    rw [Array.toList_append, List.mem_append] at hc
    rcases hc with hc | hc
    · exact ha c hc
    · exact sg_reprChar (hl d List.mem_cons_self) c (by simpa using hc)
theorem sg_repr {x : Str} (h : SgOk x) : SgOk (reprText x) := by
  have hq : reprQuote x < 0x110000 := by
    unfold reprQuote
    split <;> decide
  intro c hc
  have hc' : c ∈ ((x.cps.foldl (fun out c => out ++ (Builtin.Str.reprChar (reprQuote x) c).toArray) #[reprQuote x]).push (reprQuote x)).toList := hc
  rw [Array.toList_push, List.mem_append] at hc'
  rcases hc' with hc' | hc'
  · rw [← Array.foldl_toList] at hc'
    exact sg_foldl _ _ _ h (fun d hd => by
      have e : d = reprQuote x := by simpa using hd
      rw [e]
      exact hq) c hc'
  · rw [List.mem_singleton.mp hc']
    exact hq
mutual
theorem sg_shown : ∀ d : PyData, okD d = true → SgOk d.shown
  | .none, _ => by
    rw [PyData.shown_none]
    exact sg_ofString _
  | .bool b, _ => by
    rw [PyData.shown_bool]
    cases b <;> exact sg_ofString _
  | .int i, _ => by
    rw [PyData.shown_int]
    exact sg_ofString _
  | .str x, h => by
    rw [PyData.shown_str]
    exact sg_repr (sg_iff.mp h)
  | .list xs, h => by
    rw [PyData.shown_list]
    exact sg_append (sg_append (sg_ofString _) (sg_join (sg_ofString _) (sg_shownAll xs h))) (sg_ofString _)
  | .tuple xs, h => by
    rw [PyData.shown_tuple]
    exact sg_append (sg_append (sg_ofString _) (sg_join (sg_ofString _) (sg_shownAll xs h))) (sg_ofString _)
  | .dict _, h => nomatch h
theorem sg_shownAll : ∀ xs : List PyData, okDs xs = true → ∀ z ∈ PyData.shownAll xs, SgOk z
  | [], _ => fun z hz => by
    rw [PyData.shownAll_nil] at hz
    cases hz
  | x :: xs, h => fun z hz => by
    have h' : (okD x && okDs xs) = true := h
    rw [Bool.and_eq_true] at h'
    rw [PyData.shownAll_cons] at hz
    rcases List.mem_cons.mp hz with rfl | hz
    · exact sg_shown x h'.1
    · exact sg_shownAll xs h'.2 z hz
end

/-! ### what repr shows of a value -/
/-- data, not deep, not long; or an empty dict -/
def Shw (K : PySem.W.Frag) (H : Hp) (v : V) (txt : Str) : Prop :=
  (∃ d, Dp K H v d ∧ okD d = true ∧ d.depth ≤ 60 ∧ cost d ≤ 100000 ∧ txt = d.shown) ∨ (∃ a, v = .ref a ∧ H a = some (.dK []) ∧ txt = "{}")
theorem Shw.sg {K : PySem.W.Frag} {H : Hp} {v : V} {txt : Str} (h : Shw K H v txt) : SgOk txt := by
  rcases h with ⟨d, _, ok, _, _, rfl⟩ | ⟨a, _, _, rfl⟩
  · exact sg_shown d ok
  · exact sg_ofString _
def rReprV (K : PySem.W.Frag) : List V → Hp → VK → Prop := fun xs H Q => ∃ (v : V) (txt : Str), xs = [v] ∧ Shw K H v txt ∧ Q (.str txt) H
section
variable {X : Cx}
theorem empty_reads {P : Program} {w : World} {H : Hp} {h : Heap} {a : Addr} (hok : HOk P w H h) (e : H a = some (.dK [])) : Reads h (.ref a) (.dict []) ([a] ++ []) ∧ sysModules ≠ a := by
  obtain ⟨_, hs, vs, hk, hd⟩ := dk_of hok e
  cases hk
  obtain ⟨o, es, ep, ho, hx, hdat, hk2, hp, _⟩ := hd
  refine ⟨?_, fun z => ?_⟩
  · have e0 : es.toList = [] := by
      generalize es.toList = l at hp
      cases hp
      rfl
    refine Reads.dict (as := []) (bs := []) ho ?_ hdat ?_ ?_
    · exact hx.1
    · rw [e0]
      exact .nil
    · rw [e0]
      exact .nil
  · rw [← z] at hs
    simp at hs
theorem call_reprV (hg : X.A.guards = some []) (hu : X.A.units + 64 < cLine) : CallR X (.builtin "repr") (rReprV X.K) := by
  intro pins s σ H xs us Q I r h
  obtain ⟨v, txt, rfl, hs, q⟩ := h
  obtain ⟨u, rfl, ru⟩ := vals1 r
  rcases hs with ⟨d, hd, ok, dep, cst, rfl⟩ | ⟨a, rfl, e, rfl⟩
  · have hlen : d.shown.length ≤ sizeLine := Nat.le_trans (shown_le d ok) (Nat.le_trans cst (by decide))
    have isRef : ∀ a, u = Value.ref a → wpAny (model X.prog X.w) X.A (call (.builtin "repr") [u]) (EP X pins σ Q) X.xe s := fun a eu => by
      obtain ⟨as, rd⟩ := Dp.reads I d _ _ hd ru
      subst eu
      exact repr_of_reads' rd (ok_show d ok) (PyData.noDict_hsm (PyData.hasDict_of_canLay d (ok_lay d ok))) hg (by omega) (fun _ _ e => e) (fun h' u tk hk => ⟨.str d.shown, H, I.kept hk, ⟨_, rfl⟩, q⟩) hlen
    cases hd with
    | non =>
      obtain rfl : u = Value.none := ru
      rw [PyData.shown_none] at q
      exact PySem.P.repr_of_none ⟨.str _, H, I.tok _, ⟨_, rfl⟩, q⟩
    | bl b =>
      obtain rfl : u = Value.bool b := ru
      rw [PyData.shown_bool] at q
      refine PySem.P.repr_of_bool ⟨.str _, H, I.tok _, ⟨_, rfl⟩, ?_⟩
      cases b <;> exact q
    | int i =>
      obtain ⟨t, rfl⟩ := ru
      rw [PyData.shown_int] at q
      have q2 := ok_show (.int i) ok
      rw [PyData.showable] at q2
      exact PySem.P.repr_of_int (of_decide_eq_true q2) ⟨.str _, H, I.tok _, ⟨_, rfl⟩, q⟩
    | str x =>
      obtain ⟨t, rfl⟩ := ru
      rw [PyData.shown_str] at q hlen
      exact PySem.P.repr_of_str ⟨.str _, H, I.tok _, ⟨_, rfl⟩, q⟩ hlen
    | lst h1 h2 => exact isRef _ ru
    | tup h1 h2 => exact isRef _ ru
  · obtain rfl : u = Value.ref a := ru
    obtain ⟨rd, ns⟩ := empty_reads I.hok e
    have es : (PyData.dict []).shown = ("{}" : Str) := by
      rw [PyData.shown_dict, PyData.shownKv_nil]
      rfl
    refine repr_of_reads' rd (by simp only [PyData.showable]; rfl) (fun _ z => ns (by simpa using z)) hg (by simp only [PyData.depth]; first | omega | (rw [PyData.depthKv]; omega)) (fun _ _ e => e) (fun h' u tk hk => ⟨.str (PyData.dict []).shown, H, I.kept hk, ⟨_, rfl⟩, ?_⟩) (by rw [es]; decide)
    rw [es]
    exact q
end

/-! ### list.count of truths -/
def eqb (b : Bool) : Value → Bool := fun v => v == Value.bool b
def rCntB (K : PySem.W.Frag) : V → List V → Hp → VK → Prop := fun x xs H Q => ∃ (p : Addr) (bs : List Bool) (b : Bool), x = .ref p ∧ xs = [.bl b] ∧ SqL K H p (bs.map V.bl) ∧ bs.length ≤ 1000 ∧ Q (.int (bs.count b : Nat)) H
section
variable {X : Cx}
theorem dp_bls {K : PySem.W.Frag} {H : Hp} : ∀ bs : List Bool, DpAll K H (bs.map V.bl) (bs.map PyData.bool)
  | [] => .nil
  | b :: r => .cons (.bl b) (dp_bls r)
theorem bools_plain : ∀ bs : List Bool, PyData.plainAll (bs.map PyData.bool) = true
  | [] => by simp only [List.map_nil, PyData.plainAll]
  | b :: r => by
    rw [List.map_cons, PyData.plainAll, bools_plain r]
    simp only [PyData.plain, Bool.and_true]
theorem bools_depth : ∀ bs : List Bool, PyData.depthAll (bs.map PyData.bool) = 0
  | [] => by simp only [List.map_nil, PyData.depthAll]
  | b :: r => by
    rw [List.map_cons, PyData.depthAll, bools_depth r, PyData.depth]
    rfl
theorem bools_count (b : Bool) : ∀ bs : List Bool, (bs.map PyData.bool).countP (fun y => PyData.eqv y (.bool b)) = bs.count b
  | [] => rfl
  | c :: r => by
    rw [List.map_cons, List.countP_cons, List.count_cons, bools_count b r]
    congr 1
theorem mt_bcount (hu : X.A.units + 64 < cLine) : MtR X "list.count" (rCntB X.K) := by
  intro pins s σ H x xs v us Q I rx rxs h
  obtain ⟨p, bs, b, rfl, rfl, hs, hz, q⟩ := h
  cases rx
  obtain ⟨u, rfl, ru⟩ := rxs.one
  obtain rfl : u = Value.bool b := ru
  obtain ⟨its, rv, pl, hlen⟩ := I.list hs
  obtain ⟨as, rd⟩ := Dp.readsAll I _ _ _ (dp_bls bs) rv
  have e : ((bs.map PyData.bool).countP fun y => PyData.eqv y (PyData.bool b)) = bs.count b := bools_count b bs
  refine PySem.SeqAt.count_list_data (vs := its.toArray) (xs := bs.map PyData.bool) (d := .bool b) pl.isList (by simpa using rd) (Reads.bool b) (bools_plain bs) (by simp only [PyData.plain]) (by rw [bools_depth]; simp only [PyData.depth]; omega) ?_
  rw [e]
  exact ⟨.int (bs.count b : Nat), H, I.tok _, ⟨_, rfl⟩, q⟩
end
end MH
/-! Small rules: what a callee lets out, defs that make lambdas, upper and replace side by side, frames in which tables of code grow, the end of such a law. -/
namespace MH
open PySem PySem.Spec PyProof.Rows L2

/-- what a callee lets out leaves this def -/
theorem passX {X : Cx} {E : XK} {E₁ : Value → Shared → Prop} (hs : X.stack = X.env :: X.outer) (hf : X.env.frame = some X.env.locals) (hex : X.ex = [])
    (hx : X.xe = fun e s' => wpAny (model X.prog X.w) X.A (leaving X.env e) (fun _ s'' => L2.CX X.prog X.w X.outer X.H_0 X.s_0 E e s'') E₁ s') : Passes (L2.CX X.prog X.w) X E := passes_call (takes_of hs hf hex hx) fun _ _ _ _ h => h
theorem roomH_units {k : Nat} {A : Around} (r : L2H.RoomH k A) : A.units + 64 < cLine := by
  have := r.un
  omega
theorem _root_.L2H.RoomH.units {k : Nat} {A : Around} (r : L2H.RoomH k A) : A.units + 64 < cLine := roomH_units r

/-! ### a def whose code object is told -/
def MkFn (K : PySem.W.Frag) (x : Str) (st : Stmt) (f c : Addr) (ps : List Str) : Prop :=
  ∃ (oc : Value) (od : Option Addr) (kV doc pm : Value) (an : Option Addr) (ct : Value) (osl : Array (Option Value)),
    K.lookup f = some ⟨oc, od, .func (PySem.W.fnOf x x (defArgs st) (defBody st) (defScope st) .none kV doc pm an (.ref c) ct), osl⟩ ∧ PySem.W.codeIn K (.ref c) x = true ∧ Binds K (PySem.W.fnOf x x (defArgs st) (defBody st) (defScope st) .none kV doc pm an (.ref c) ct) ps []
theorem _root_.L2.Fun.shape {K : PySem.W.Frag} {x : Str} {st : Stmt} {f : Addr} {fd : FuncData} {ps : List Str} (F : Fun K x x st f fd) (b : Binds K fd ps []) :
    ∃ (oc : Value) (od : Option Addr) (kV doc pm : Value) (an : Option Addr) (cdv ct : Value) (osl : Array (Option Value)),
      K.lookup f = some ⟨oc, od, .func (PySem.W.fnOf x x (defArgs st) (defBody st) (defScope st) .none kV doc pm an cdv ct), osl⟩ ∧ PySem.W.codeIn K cdv x = true ∧ Binds K (PySem.W.fnOf x x (defArgs st) (defBody st) (defScope st) .none kV doc pm an cdv ct) ps [] := by
  obtain ⟨oc, od, kV, doc, pm, an, cdv, ct, osl, e, lk, hc⟩ := F.ex
  subst e
  exact ⟨oc, od, kV, doc, pm, an, cdv, ct, osl, lk, hc, b⟩
section
variable {P : Program} {w : World} {K : PySem.W.Frag} {mg : Str → Option Value} {base : Heap} {k : Nat} {f c : Addr} {sp : Sp}
theorem fun_m {x : Str} {st : Stmt} {N ps : List Str} (M : MkFn K x st f c ps) (S : FnScope N ps (defScope st)) (hlen : ∀ vs H Q E, sp vs H Q E → vs.length = ps.length)
    (hbd : ∀ (A : Around) (fr : List Env) (s : Shared) (H : Hp) (vs : List V) (Q : VK), A.guards = some [] → Room k (A.deeper (envOfC x (defScope st) s.heap.objs.size f (.ref c))) → sp vs H Q E0 →
      ∃ t, PSs (cxOf CX0 P w K mg base N x (defScope st) f (.ref c) A fr s H E0).nox (defBody st) t ∧ t { nx := fun _ H' => Q .non H', rt := Q } (start N vs) H) :
    FnG P w K mg base (k + 1) f sp := by
  obtain ⟨oc, od, kV, doc, pm, an, ct, osl, lk, hc, hB⟩ := M
  exact fg_of lk hc S hB hlen hbd
end

/-- what a code object must have beside its table -/
def codeOk (vs : Array Value) (c P : Addr) : Bool := (match (vs[11]? : Option Value) with | some (.ref P') => P' == P | _ => false) &&
  (match vs.getD 18 .none with | .str _ _ => true | _ => false) && (match vs.getD 7 .none with | .int _ _ => true | _ => false) &&
  (match vs.getD 9 .none with | .bool _ => true | _ => false) && (match vs.getD 10 .none with | .int _ _ => true | _ => false) && c != P
theorem codeHd_of {K : PySem.W.Frag} {c P : Addr} {d : Option Addr} {vs : Array Value} {sl : Array (Option Value)} (h : K.lookup c = some ⟨.type "code", d, .fields vs, sl⟩) (h2 : codeOk vs c P = true) : PySem.W.codeHdIn K c P = true := by
  unfold PySem.W.codeHdIn
  rw [h]
  exact h2

/-! ### [x.upper(), y.replace(".", ".."), ..] -/
def rUp : V → List V → Hp → VK → Prop := fun x xs H Q => ∃ a, x = .str a ∧ xs = [] ∧ a.length ≤ 5592405 ∧ Q (.str (Txt.upper a)) H
theorem pa_upRep {X : Cx} {o o2 : Expr} {es : List Expr} {to to2 : TE} {t : TA} {y z : Str} {j k : Nat} {ap1 p1 ap2 p2 c0 c1 : Pos} (ho : PE X o to) (ho2 : PE X o2 to2) (hr : PA X es t) (hyz : (y == z) = false := by decide)
    (hst : starEach [.Constant (.str y) j c0, .Constant (.str z) k c1] X.env = [(false, eval (.Constant (.str y) j c0) X.env), (false, eval (.Constant (.str z) k c1) X.env)] := by rfl)
    (hb1 : attributeBase o "upper" X.env (eval o X.env) = eval o X.env := by rfl) (hl1 : (ap1.endLine == p1.line) = true := by rfl)
    (hb2 : attributeBase o2 "replace" X.env (eval o2 X.env) = eval o2 X.env := by rfl) (hl2 : (ap2.endLine == p2.line) = true := by rfl)
    (hs : starEach (.Call (.Attribute o "upper" ap1) [] [] p1 :: .Call (.Attribute o2 "replace" ap2) [.Constant (.str y) j c0, .Constant (.str z) k c1] [] p2 :: es) X.env
      = (false, eval (.Call (.Attribute o "upper" ap1) [] [] p1) X.env) :: (false, eval (.Call (.Attribute o2 "replace" ap2) [.Constant (.str y) j c0, .Constant (.str z) k c1] [] p2) X.env) :: starEach es X.env := by rfl) :
    PA X (.Call (.Attribute o "upper" ap1) [] [] p1 :: .Call (.Attribute o2 "replace" ap2) [.Constant (.str y) j c0, .Constant (.str z) k c1] [] p2 :: es) (tCons (tM0 rUp to) (tCons (CwR.tReplC to2 y z) t)) := by
  refine ⟨fun pos pins s σ H Q I h => ?_⟩
  rw [hs]
  refine Calls.spliced_cons ?_
  refine PySem.Call_method0 hb1 hl1 (thn (ho.run pins s σ H _ I h) fun v s1 ⟨x, H1, I1, r1, q1⟩ => ?_)
  obtain ⟨⟨a, rfl⟩, b, eb, _, hlen, q1⟩ := q1
  obtain rfl : a = b := V.str.inj eb
  obtain ⟨tk, rfl⟩ := id r1
  refine ⟨"str", _, PySem.F.plainAttrs_str, PySem.F.slot_str_upper, PySem.F.type_str_upper, typeIs_str _ _ _, (fun _ e => nomatch e), Calls.callWith_builtin rfl (PySem.evalArgs_none ?_)⟩
  refine PySem.SC.upper (PyProof.Rows.short24 (by have := PyProof.Rows.len_upper a; omega)) ?_
  refine Calls.spliced_cons (thn (CwR.pet_replC ho2 hyz hst hb2 hl2 pins _ σ H1 _ (Nat.le_add_left 1 s1.toks) (I1.tok (s1.toks + 1)) q1) fun u s2 ⟨x2, H2, I2, r2, q2⟩ => ?_)
  exact thn (hr.run pos pins s2 σ H2 _ I2 q2) fun us s3 ⟨xs, H3, I3, r3, q3⟩ => ⟨V.str (Txt.upper a) :: x2 :: xs, H3, I3, .cons ⟨_, rfl⟩ (.cons r2 r3), q3⟩

/-! ### frames in which the tables of code may grow -/
theorem extN_of {H H' : Hp} (s : Same H H') : LamX.ExtN H H' := fun b o e _ => s b o e
theorem extN_sqt {K : PySem.W.Frag} {H H' : Hp} {a : Addr} {xs : List V} (e : LamX.ExtN H H') (h : SqT K H a xs) : SqT K H' a xs := by
  rcases h with (h | ⟨o, h⟩) | h
  · exact .inl (.inl (e _ _ h fun _ z => nomatch z))
  · exact .inl (.inr ⟨o, e _ _ h fun _ z => nomatch z⟩)
  · exact .inr h
theorem extN_sql {K : PySem.W.Frag} {H H' : Hp} {a : Addr} {xs : List V} (e : LamX.ExtN H H') (h : SqL K H a xs) : SqL K H' a xs := by
  rcases h with (h | ⟨o, h⟩) | h
  · exact .inl (.inl (e _ _ h fun _ z => nomatch z))
  · exact .inl (.inr ⟨o, e _ _ h fun _ z => nomatch z⟩)
  · exact .inr h
mutual
theorem extN_dp {K : PySem.W.Frag} {H H' : Hp} (e : LamX.ExtN H H') : ∀ (d : PyData) (v : V), Dp K H v d → Dp K H' v d
  | .none, _, h => by cases h; exact .non
  | .bool b, _, h => by cases h; exact .bl b
  | .int i, _, h => by cases h; exact .int i
  | .str x, _, h => by cases h; exact .str x
  | .list ds, _, h => by
    cases h with
    | lst h1 h2 => exact .lst (extN_sql e h1) (extN_dps e ds _ h2)
  | .tuple ds, _, h => by
    cases h with
    | tup h1 h2 => exact .tup (extN_sqt e h1) (extN_dps e ds _ h2)
  | .dict _, _, h => by cases h
theorem extN_dps {K : PySem.W.Frag} {H H' : Hp} (e : LamX.ExtN H H') : ∀ (ds : List PyData) (vs : List V), DpAll K H vs ds → DpAll K H' vs ds
  | [], _, h => by cases h; exact .nil
  | d :: ds, _, h => by
    cases h with
    | cons h1 h2 => exact .cons (extN_dp e d _ h1) (extN_dps e ds _ h2)
end
theorem extN_shw {K : PySem.W.Frag} {H H' : Hp} {v : V} {txt : Str} (e : LamX.ExtN H H') (h : Shw K H v txt) : Shw K H' v txt := by
  rcases h with ⟨d, h1, h2⟩ | ⟨a, h1, h2, h3⟩
  · exact .inl ⟨d, extN_dp e d v h1, h2⟩
  · exact .inr ⟨a, h1, e _ _ h2 (fun _ z => nomatch z), h3⟩
theorem tabs_same {T : List (Addr × Str)} {H H' : Hp} (t : LamX.Tabs T H) (s : Same H H') : LamX.Tabs T H' := t.ext s
/-- the tables stand where only an object that is no part of them changed -/
theorem tabs_but {T : List (Addr × Str)} {H H' : Hp} {p : Addr} {u : HO} (t : LamX.Tabs T H) (hp : H p = some u) (n1 : ∀ ps, u ≠ .tbl ps) (n2 : ∀ c q, u ≠ LamX.CodeO c q) (s : ∀ b o, b ≠ p → H b = some o → H' b = some o) : LamX.Tabs T H' := fun x hx => by
  obtain ⟨ps, h1, h2, h3⟩ := t x hx
  refine ⟨ps, s _ _ (fun e => ?_) h1, h2, fun pos cv hc => ?_⟩
  · rw [e, hp] at h1
    exact n1 ps (Option.some.inj h1)
  · obtain ⟨c, e1, e2⟩ := h3 pos cv hc
    refine ⟨c, e1, s _ _ (fun e => ?_) e2⟩
    rw [e, hp] at e2
    exact n2 _ _ (Option.some.inj e2)
/-- what keeps the tables and all else -/
theorem extN_trans {H H1 H2 : Hp} (a : LamX.ExtN H H1) (b : LamX.ExtN H1 H2) : LamX.ExtN H H2 := a.trans b
theorem extN_new {H : Hp} {p : Addr} {o : HO} (h : H p = none) : LamX.ExtN H (upd H p o) := fun b x e _ => by
  rw [upd_ne (ne_of_none e h)]
  exact e

/-! ### the end of a law whose defs make lambdas -/
theorem law_callt {P : Program} {w : World} {K : PySem.W.Frag} {mg mb : Str → Option Value} {k : Nat} {fa a c T : Addr} {sp : Sp} {st : Shared} {us : List Value} {ns : List Int}
    (KX : K.In st.heap) (hn : st.heap.Ns mainGlobals mg) (hb : st.heap.Ns builtinsNs mb) (hbb : ∀ x : Str, x ≠ "__name__" → mb x = bootBuiltins x) (nl : st.heap.NoLimit) (hgens : st.gens = #[])
    (hT : st.heap.get? T = some (PySem.W.tabObj #[])) (nT : K.lookup T = none) (hC : PySem.W.CodeHd st.heap c T)
    (hbm : ∃ (bm : Addr) (ob : Obj), mg "__builtins__" = some (.ref bm) ∧ bm ≠ builtinsNs ∧ st.heap.get? bm = some ob ∧ ob.cls = .type "module" ∧ ob.dict = some builtinsNs ∧ ob.data = .plain)
    (ha : st.heap.get? a = some { cls := .type "list", data := .seq us.toArray }) (hi : IntsAre us ns) (hz : ns.length ≤ sizeLine) (hr : Room k callerA)
    (F : ∀ base : Heap, K.In base → base.Ns mainGlobals mg → LamX.TabB base mg c T → FnG P w K mg base k fa sp)
    (hsp : ∀ H : Hp, H T = some (.tbl #[]) → SqL K H a (ns.map V.int) → sp [.ref a] H (fun v _ => v = .bl true) E0) :
    codeAny (model P w) callerA (.call (.ref fa) ⟨[.ref a], []⟩) (fun r s' => r = .ok (.ret (.bool true)) ∧ OldK st.heap s'.heap ∧ s'.os = st.os ∧ AllBare s'.gens) st := by
  have rv := vals_ints hi
  have hlen := hi.length
  have aT : a ≠ T := fun e => by
    rw [e, hT] at ha
    cases ha
  let S : HO := .frz { cls := .type "list", data := .seq us.toArray } (.lst (ns.map V.int))
  have key : ∀ H : Hp, (∀ b, H b = none ∨ (b = T ∧ H b = some (.tbl #[])) ∨ (b = a ∧ H b = some S)) → H T = some (.tbl #[]) → SqL K H a (ns.map V.int) → (H a ≠ none → K.lookup a = none) →
      codeAny (model P w) callerA (.call (.ref fa) ⟨[.ref a], []⟩) (fun r s' => r = .ok (.ret (.bool true)) ∧ OldK st.heap s'.heap ∧ s'.os = st.os ∧ AllBare s'.gens) st := by
    intro H hO hHT hS hK
    have hok : HOk P w H st.heap := fun b u z => by
      rcases hO b with n | ⟨e, n⟩ | ⟨e, n⟩
      · rw [z] at n
        cases n
      · rw [z] at n
        cases n
        rw [e]
        exact hT
      · rw [z] at n
        cases n
        rw [e]
        exact ⟨ha, by rw [List.length_map]; exact hz, us, _, rv, ha⟩
    -- what is no list of the script and no table is not told of
    have off : ∀ {b : Addr} {o : Obj}, st.heap.get? b = some o → (∀ vs n, o.data ≠ .seq vs n) → o.data ≠ .fields #[] → H b = none := fun {b o} e h1 h2 => by
      rcases hO b with n | ⟨e2, _⟩ | ⟨e2, _⟩
      · exact n
      · rw [e2, hT] at e
        cases e
        exact absurd rfl h2
      · rw [e2, ha] at e
        cases e
        exact absurd rfl (h1 _ _)
    have toNs : ∀ {b : Addr} {m : Str → Option Value}, st.heap.Ns b m → (hidT st.heap H).Ns b m := fun ⟨o, es, ep, e, d, r⟩ => ⟨o, es, ep, hidT_get e (off e (fun vs n z => by rw [d] at z; cases z) fun z => by rw [d] at z; cases z), d, r⟩
    have kb : K.In (hidT st.heap H) := fun b o e => hidT_get (KX b o e) (by
      rcases hO b with n | ⟨e2, _⟩ | ⟨e2, n⟩
      · exact n
      · rw [e2, nT] at e
        cases e
      · rw [e2, hK (by rw [← e2, n]; simp)] at e
        cases e)
    obtain ⟨mc, l1, l2⟩ := nl
    have M : Mod K mg (hidT st.heap H) := ⟨kb, toNs hn, ⟨mb, toNs hb, hbb⟩, ⟨mc, toNs l1, l2⟩⟩
    have TB : LamX.TabB (hidT st.heap H) mg c T := by
      refine ⟨?_, ?_, fun z => ?_⟩
      · obtain ⟨o, vs, file, tf, flags, tg, inF, text, tt, e1, r1, r2, r3, rest⟩ := hC
        refine ⟨o, vs, file, tf, flags, tg, inF, text, tt, hidT_get e1 (off e1 (fun vs n z => ?_) fun z => ?_), r1, r2, r3, rest⟩
        · rw [r2] at z
          cases z
        · rw [r2] at z
          cases z
          simp at r3
      · obtain ⟨bm, ob, b1, b2, b3, b4, b5, b6⟩ := hbm
        have g0 : bm ≠ mainGlobals := fun q => by
          obtain ⟨o, es, ep, e, d, _⟩ := hn
          rw [q, e] at b3
          cases b3
          rw [d] at b6
          cases b6
        have g1 : bm ≠ T := fun q => by
          rw [q, hT] at b3
          cases b3
          cases b6
        refine ⟨bm, ob, b1, b2, g0, g1, hidT_get b3 (off b3 (fun vs n z => ?_) fun z => ?_), b4, b5, b6⟩
        · rw [b6] at z
          cases z
        · rw [b6] at z
          cases z
      · obtain ⟨o, es, ep, e, d, _⟩ := hn
        rw [z, hT] at e
        cases e
        cases d
    have e0 : Env0 P w K mg (hidT st.heap H) callerA [] st H :=
      ⟨rfl, M, fun b o e => of_hidT e, Nat.le_of_eq (hidT_size _ _), trivial, fun b hb => absurd (show b ∈ ([] : List Addr) from hb) (by simp), hok, .of_eq hgens⟩
    refine codeAny_mono (F _ kb (toNs hn) TB callerA [] st H [.ref a] [.ref a] _ rfl hr e0 (.cons rfl .nil) (hsp H hHT hS)) fun r s' h => ?_
    match r, h with
    | .error e, h => exact h.elim
    | .ok .next, h => exact h.elim
    | .ok .brk, h => exact h.elim
    | .ok .cont, h => exact h.elim
    | .ok (.ret u), h =>
      obtain ⟨v, H', os, bare, un, hok', rr, q⟩ := h
      obtain rfl : v = .bl true := q
      obtain rfl : u = Value.bool true := rr
      obtain ⟨more, grown⟩ := un.tbls T #[] hHT
      have atT : s'.heap.get? T = some { cls := .none, data := .fields (#[] ++ more) } := hok' T _ grown
      have rest : ∀ b o, b ≠ T → st.heap.get? b = some o → s'.heap.get? b = some o := fun b o nb e => by
        rcases hO b with n | ⟨e2, _⟩ | ⟨e2, n⟩
        · exact un.keep b o e n (fun z => absurd (show b ∈ ([] : List Addr) from z) (by simp)) (by simp)
        · exact absurd e2 nb
        · obtain ⟨g1, _⟩ := hok b _ n
          obtain ⟨g2, _⟩ := hok' b _ (un.frzs b _ _ n)
          rw [e] at g1
          cases g1
          exact g2
      refine ⟨rfl, ⟨fun b o e => ?_, fun b o e => ?_⟩, os, bare⟩
      · by_cases hbT : b = T
        · subst hbT
          rw [hT] at e
          cases e
          exact .inr (.inl ⟨(hC.tab hT).isCodeTable, rfl, #[], more, rfl, by rw [Array.empty_append] at atT ⊢; exact atT⟩)
        · exact .inl (rest b o hbT e)
      · by_cases hbT : b = T
        · subst hbT
          exact ⟨_, atT⟩
        · exact ⟨o, rest b o hbT e⟩
  cases hk : K.lookup a with
  | some o =>
    have e := KX a o hk
    rw [ha] at e
    cases e
    refine key (fun b => if b = T then some (.tbl #[]) else none) (fun b => ?_) (if_pos rfl) (.inr ⟨_, us.toArray, _, hk, rfl, rfl, rfl, ?_, by simpa using rv⟩) fun z => absurd (if_neg aT) z
    · by_cases q : b = T
      · exact .inr (.inl ⟨q, if_pos q⟩)
      · exact .inl (if_neg q)
    · rw [List.size_toArray, hlen]
      exact hz
  | none =>
    refine key (fun b => if b = a then some S else if b = T then some (.tbl #[]) else none) (fun b => ?_) ((if_neg aT.symm).trans (if_pos rfl)) (.inl (.inr ⟨{ cls := .type "list", data := .seq us.toArray }, if_pos rfl⟩)) fun _ => hk
    by_cases q : b = a
    · exact .inr (.inr ⟨q, if_pos q⟩)
    · by_cases q2 : b = T
      · exact .inr (.inl ⟨q2, (if_neg q).trans (if_pos q2)⟩)
      · exact .inl ((if_neg q).trans (if_neg q2))

theorem walk_t {l : PySem.W.OpenLaw} {n k : Nat} {q : Program} {loose : List Str} {XP : (Str → Option Value) → Heap → Prop} {YP : World → Heap → Prop} {d : DefRec} {K : Params → PySem.W.Frag} {sp : Addr → PySem.W.Frag → Sp}
    (hn : l.most = some n) (hn2 : n ≤ sizeLine) (hdf : d.params.defaults = []) (hr : Room k callerA) (hY : ∀ (w : World) (h : Heap), YP w h → (K w.params).In h)
    (F : ∀ (w : World) (mg : Str → Option Value) (fa : Addr) (h : Heap), YP w h → (K w.params).In h → h.Ns mainGlobals mg → mg d.name = some (.ref fa) →
      ∃ c T : Addr, h.get? T = some (PySem.W.tabObj #[]) ∧ (K w.params).lookup T = none ∧ PySem.W.CodeHd h c T ∧
        ∀ base : Heap, (K w.params).In base → base.Ns mainGlobals mg → LamX.TabB base mg c T → FnG l.prog w (K w.params) mg base k fa (sp T (K w.params)))
    (hsp : ∀ (T : Addr) (K : PySem.W.Frag) (H : Hp) (a : Addr) (ns : List Int), ns.length ≤ n → H T = some (.tbl #[]) → SqL K H a (ns.map V.int) → sp T K [.ref a] H (fun v _ => v = .bl true) E0) :
    PySem.W.WalkO q loose XP YP l.row.toRowW d [] (fun f vs => PySem.call f vs) := by
  refine Att.attach_call hn hdf fun w s₀ s₁ mg mb fa o pm cd doc a vs ns G Y ho hd hcd hmg hobj hints hlen hg => ?_
  have KX := hY w _ Y
  obtain ⟨c, T, hT, nT, hC, hF⟩ := F w mg fa _ Y KX G.T.g hmg
  exact law_callt KX G.T.g G.T.b G.T.builtins G.T.nolimit hg hT nT hC G.T.bmain hobj hints (Nat.le_trans hlen hn2) hr hF fun H hH hS => hsp T _ H a ns hlen hH hS
end MH
/-! More small rules: t == (), star defs that raise, c.m() of a class, calls that may raise but do not, the end of a law with several tables of code. -/
namespace MH
open PySem PySem.Spec PyProof.Rows L2

/-! ### t == () -/
def rEqT0 (K : PySem.W.Frag) : R2 := fun x y H Q => ∃ (a b : Addr) (xs : List V), x = .ref a ∧ y = .ref b ∧ SqT K H a xs ∧ SqT K H b [] ∧ Q (.bl (decide (xs = []))) H
theorem op_eqT0 {X : Cx} (hu : X.A.units < cLine) : OpR X (compareOp .Eq) (rEqT0 X.K) := by
  intro pins s σ H x y v u Q I rx ry h
  obtain ⟨a, b, xs, rfl, rfl, ha, hb, q⟩ := h
  obtain rfl : v = Value.ref a := rx
  obtain rfl : u = Value.ref b := ry
  obtain ⟨its, rv, pl, hlen⟩ := I.tuple ha
  obtain ⟨its2, rv2, pl2, _⟩ := I.tuple hb
  cases rv2
  have e : ((List.range (min its.toArray.size ([] : List Value).toArray.size)).all (fun _ => true) && its.toArray.size == ([] : List Value).toArray.size) = decide (xs = []) := by
    have hl := rv.length
    cases xs with
    | nil =>
      have : its = [] := List.length_eq_zero_iff.mp hl.symm
      subst this
      rfl
    | cons x r =>
      cases its with
      | nil => cases hl
      | cons y t => simp
  have q2 : EP X pins σ Q (.bool (decide (xs = []))) s := ⟨.bl _, H, I, rfl, q⟩
  rw [← e] at q2
  exact SeqAt.RcAt.tuples (e := fun _ => true) pl pl2 hu (fun j h1 h2 => absurd h2 (by simp)) X.prog X.w _ _ q2

/-! ### calls that may raise and do not -/
theorem pass00 {X : Cx} : Passes (L2.CX X.prog X.w) X E0 := passes_call LamX.takes0 fun _ _ _ _ h => h

/-! ### star defs that raise -/
theorem cxnew {P : Program} {w : World} : CXNew (L2.CX P w) := by
  intro outer s H h2 p rest E e s' more hp np h
  obtain ⟨a, B, H', cls, d, e1, fl, hok, ub, na, os, ag, q⟩ := h
  have off : ∀ b o, s.heap.get? b = some o → b ≠ p := fun b o e z => by
    have q : b < s.heap.objs.size := Heap.lt_size e
    rw [z] at q
    exact absurd hp (Nat.not_le_of_lt q)
  refine ⟨a, B, H', cls, d, e1, fl, hok, ⟨fun b o e n hx => ?_, fun b o e m => ?_, fun b o e n => ?_, fun b o e m => ?_, fun b xs e => ?_, fun b o u e => ?_, fun b ps e => ?_⟩, na, os, ag, q⟩
  · exact ub.keep b o (more _ _ e) (by rw [upd_ne (off b o e)]; exact n) hx
  · exact ub.slot b o (more _ _ e) m
  · exact ub.free b o (more _ _ e) (by rw [upd_ne (off b o e)]; exact n)
  · exact ub.there b o (more _ _ e) m
  · exact ub.tups b xs (by rw [upd_ne (ne_of_none e np)]; exact e)
  · exact ub.frzs b o u (by rw [upd_ne (ne_of_none e np)]; exact e)
  · exact ub.tbls b ps (by rw [upd_ne (ne_of_none e np)]; exact e)
theorem fun_starX {k n : Nat} {P : Program} {w : World} {K : PySem.W.Frag} {mg : Str → Option Value} {base : Heap} {f : Addr} {x qual pa pv : Str} {st : Stmt} {fd : FuncData} {N : List Str} {sp : Sp} (F : Fun K x qual st f fd) (S : FnScope N [pa, pv] (defScope st)) (hn : n ≤ sizeLine)
    (hb : ∀ (u : Value) (rest : List Value), rest.length ≤ n → bindArgs fd ⟨u :: rest, []⟩ = (newTuple rest >>= fun t => pure [(pa, u), (pv, t)]))
    (hbd : ∀ (cdv : Value) (A : Around) (outer : List Env) (s : Shared) (H : Hp) (vs : List V) (Q : VK) (E : XK), Room k (A.deeper (envOfC qual (defScope st) s.heap.objs.size f cdv)) → sp vs H Q E →
      ∃ t, PSs (cxOf (L2.CX P w) P w K mg base N qual (defScope st) f cdv A outer s H E) (defBody st) t ∧ t { nx := fun _ H' => Q .non H', rt := Q } (start N vs) H) :
    FnR P w K mg base (L2.CX P w) (k + 1) f (fun vs H Q E => ∃ v rest, vs = v :: rest ∧ rest.length ≤ n ∧ ∀ p, H p = none → sp [v, .ref p] (upd H p (.tup rest)) Q E) := by
  obtain ⟨oc, od, kV, doc, pm, an, cdv, ct, osl, rfl, lk, hc⟩ := F.ex
  exact fn_ofV (CX := L2.CX P w) (sp := sp) lk hc S (nmax := n) hn hb cxnew fun A outer s H vs Q E hr h => hbd cdv A outer s H vs Q E hr h
theorem bindV11 {fd : FuncData} {pa pv : Str} (h : ∀ (n : Nat), n ≤ 11 → ∀ (u : Value) (rest : List Value), rest.length = n → bindArgs fd ⟨u :: rest, []⟩ = (newTuple rest >>= fun t => pure [(pa, u), (pv, t)])) :
    ∀ (u : Value) (rest : List Value), rest.length ≤ 11 → bindArgs fd ⟨u :: rest, []⟩ = (newTuple rest >>= fun t => pure [(pa, u), (pv, t)]) := fun u rest h2 => h rest.length h2 u rest rfl

/-! ### c.m(), m a classmethod -/
def tCMeth0 (C : Addr) (sp : Sp) (E : XK) (ta : TE) : TE := fun σ H Q => ta σ H fun x H1 => x = .ref C ∧ sp [.ref C] H1 Q E
section
variable {X : Cx} {CX : CXT} {k : Nat} {f C : Addr} {sp : Sp} {E : XK}
theorem pe_cmeth0 {p : Addr} {mc : Value} {o : Expr} {m : Str} {apos pos : Pos} {ta : TE} {pl : Sem Bool} (he : PE X o ta) (r : ClX.CRead X.K C mc) (c : ClX.CMet X.K C mc m p f)
    (F : FnR X.prog X.w X.K X.mg X.base CX k f sp) (hr : Room k X.A) (hx : Passes CX X E)
    (ht : eval (.Call (.Attribute o m apos) [] [] pos) X.env = (do
      let ov ← eval o X.env
      standAt apos.atName
      let (f, first) ← holding [ov] (getMethod ov m pl)
      callWith pos f first (backTo pos (starEach [] X.env)) (backToKw pos (keywordEach [] X.env))) := by rfl) :
    PE X (.Call (.Attribute o m apos) [] [] pos) (tCMeth0 C sp E ta) := by
  refine ⟨fun pins s σ H Q I h => ?_⟩
  refine PySem.W.methodCall_KW (pl := pl) (thn (he.run pins s σ H _ I h) fun u s1 ⟨x, H1, I1, rx, ex, q⟩ => ?_) ht
  subst ex
  obtain rfl : u = Value.ref C := rx
  refine ClX.getmethcm_ok I1 r c fun s2 I2 => ?_
  refine PySem.W.callWith_of (P := PySem.W.MethP X.K s1.heap.objs.size f (.ref C)) (by rfl) (PySem.W.keeps_M c.fi) (PySem.evalArgs_none ⟨⟨ClX.pin_at I2, I2.kIn⟩, ?_⟩)
  have r1 : Vals [V.ref C] [Value.ref C] := .cons rfl .nil
  have z : wpAny (model X.prog X.w) X.A (call (.ref s1.heap.objs.size) [] []) (EP X ((s1.heap.objs.size, PySem.W.methodObj (.ref f) (.ref C)) :: pins) σ Q) X.xe s2 := by
    refine wpAny_call (PySem.W.method_call (ClX.pin_at I2) ?_)
    exact run_fnR F hr hx I2 r1 q
  exact thn z fun _ _ y => ClX.unpinE y
end

/-! ### the end of a law whose defs make lambdas: several tables -/
theorem law_calltL {P : Program} {w : World} {K : PySem.W.Frag} {mg mb : Str → Option Value} {k : Nat} {fa a : Addr} {cs : List (Addr × Addr)} {sp : Sp} {st : Shared} {us : List Value} {ns : List Int}
    (KX : K.In st.heap) (hn : st.heap.Ns mainGlobals mg) (hb : st.heap.Ns builtinsNs mb) (hbb : ∀ x : Str, x ≠ "__name__" → mb x = bootBuiltins x) (nl : st.heap.NoLimit) (hgens : st.gens = #[])
    (hT0 : ∀ p ∈ cs, st.heap.get? p.2 = some (PySem.W.tabObj #[])) (nT0 : ∀ p ∈ cs, K.lookup p.2 = none) (hC0 : ∀ p ∈ cs, PySem.W.CodeHd st.heap p.1 p.2)
    (hbm : ∃ (bm : Addr) (ob : Obj), mg "__builtins__" = some (.ref bm) ∧ bm ≠ builtinsNs ∧ st.heap.get? bm = some ob ∧ ob.cls = .type "module" ∧ ob.dict = some builtinsNs ∧ ob.data = .plain)
    (ha : st.heap.get? a = some { cls := .type "list", data := .seq us.toArray }) (hi : IntsAre us ns) (hz : ns.length ≤ sizeLine) (hr : Room k callerA)
    (F : ∀ base : Heap, K.In base → base.Ns mainGlobals mg → (∀ p ∈ cs, LamX.TabB base mg p.1 p.2) → FnG P w K mg base k fa sp)
    (hsp : ∀ H : Hp, (∀ p ∈ cs, H p.2 = some (.tbl #[])) → SqL K H a (ns.map V.int) → sp [.ref a] H (fun v _ => v = .bl true) E0) :
    codeAny (model P w) callerA (.call (.ref fa) ⟨[.ref a], []⟩) (fun r s' => r = .ok (.ret (.bool true)) ∧ OldK st.heap s'.heap ∧ s'.os = st.os ∧ AllBare s'.gens) st := by
  have rv := vals_ints hi
  have hlen := hi.length
  let TS : List Addr := cs.map Prod.snd
  have inTS : ∀ {b : Addr}, b ∈ TS → ∃ p ∈ cs, p.2 = b := fun h => List.mem_map.mp h
  have hT : ∀ b ∈ TS, st.heap.get? b = some (PySem.W.tabObj #[]) := fun b h => by
    obtain ⟨p, hp, rfl⟩ := inTS h
    exact hT0 p hp
  have nT : ∀ b ∈ TS, K.lookup b = none := fun b h => by
    obtain ⟨p, hp, rfl⟩ := inTS h
    exact nT0 p hp
  have aT : a ∉ TS := fun e => by
    rw [hT a e] at ha
    cases ha
  let S : HO := .frz { cls := .type "list", data := .seq us.toArray } (.lst (ns.map V.int))
  have key : ∀ H : Hp, (∀ b, H b = none ∨ (b ∈ TS ∧ H b = some (.tbl #[])) ∨ (b = a ∧ H b = some S)) → (∀ b ∈ TS, H b = some (.tbl #[])) → SqL K H a (ns.map V.int) → (H a ≠ none → K.lookup a = none) →
      codeAny (model P w) callerA (.call (.ref fa) ⟨[.ref a], []⟩) (fun r s' => r = .ok (.ret (.bool true)) ∧ OldK st.heap s'.heap ∧ s'.os = st.os ∧ AllBare s'.gens) st := by
    intro H hO hHT hS hK
    have hok : HOk P w H st.heap := fun b u z => by
      rcases hO b with n | ⟨e, n⟩ | ⟨e, n⟩
      · rw [z] at n
        cases n
      · rw [z] at n
        cases n
        exact hT b e
      · rw [z] at n
        cases n
        rw [e]
        exact ⟨ha, by rw [List.length_map]; exact hz, us, _, rv, ha⟩
    -- what is no list of the script and no table is not told of
    have off : ∀ {b : Addr} {o : Obj}, st.heap.get? b = some o → (∀ vs n, o.data ≠ .seq vs n) → o.data ≠ .fields #[] → H b = none := fun {b o} e h1 h2 => by
      rcases hO b with n | ⟨e2, _⟩ | ⟨e2, _⟩
      · exact n
      · rw [hT b e2] at e
        cases e
        exact absurd rfl h2
      · rw [e2, ha] at e
        cases e
        exact absurd rfl (h1 _ _)
    have toNs : ∀ {b : Addr} {m : Str → Option Value}, st.heap.Ns b m → (hidT st.heap H).Ns b m := fun ⟨o, es, ep, e, d, r⟩ => ⟨o, es, ep, hidT_get e (off e (fun vs n z => by rw [d] at z; cases z) fun z => by rw [d] at z; cases z), d, r⟩
    have kb : K.In (hidT st.heap H) := fun b o e => hidT_get (KX b o e) (by
      rcases hO b with n | ⟨e2, _⟩ | ⟨e2, n⟩
      · exact n
      · rw [nT b e2] at e
        cases e
      · rw [e2, hK (by rw [← e2, n]; simp)] at e
        cases e)
    obtain ⟨mc, l1, l2⟩ := nl
    have M : Mod K mg (hidT st.heap H) := ⟨kb, toNs hn, ⟨mb, toNs hb, hbb⟩, ⟨mc, toNs l1, l2⟩⟩
    have TB : ∀ p ∈ cs, LamX.TabB (hidT st.heap H) mg p.1 p.2 := by
      intro pp hpp
      have hTp := hT0 pp hpp
      refine ⟨?_, ?_, fun z => ?_⟩
      · obtain ⟨o, vs, file, tf, flags, tg, inF, text, tt, e1, r1, r2, r3, rest⟩ := hC0 pp hpp
        refine ⟨o, vs, file, tf, flags, tg, inF, text, tt, hidT_get e1 (off e1 (fun vs n z => ?_) fun z => ?_), r1, r2, r3, rest⟩
        · rw [r2] at z
          cases z
        · rw [r2] at z
          cases z
          simp at r3
      · obtain ⟨bm, ob, b1, b2, b3, b4, b5, b6⟩ := hbm
        have g0 : bm ≠ mainGlobals := fun q => by
          obtain ⟨o, es, ep, e, d, _⟩ := hn
          rw [q, e] at b3
          cases b3
          rw [d] at b6
          cases b6
        have g1 : bm ≠ pp.2 := fun q => by
          rw [q, hTp] at b3
          cases b3
          cases b6
        refine ⟨bm, ob, b1, b2, g0, g1, hidT_get b3 (off b3 (fun vs n z => ?_) fun z => ?_), b4, b5, b6⟩
        · rw [b6] at z
          cases z
        · rw [b6] at z
          cases z
      · obtain ⟨o, es, ep, e, d, _⟩ := hn
        rw [z, hTp] at e
        cases e
        cases d
    have e0 : Env0 P w K mg (hidT st.heap H) callerA [] st H :=
      ⟨rfl, M, fun b o e => of_hidT e, Nat.le_of_eq (hidT_size _ _), trivial, fun b hb => absurd (show b ∈ ([] : List Addr) from hb) (by simp), hok, .of_eq hgens⟩
    refine codeAny_mono (F _ kb (toNs hn) TB callerA [] st H [.ref a] [.ref a] _ rfl hr e0 (.cons rfl .nil) (hsp H (fun p hp => hHT _ (List.mem_map_of_mem hp)) hS)) fun r s' h => ?_
    match r, h with
    | .error e, h => exact h.elim
    | .ok .next, h => exact h.elim
    | .ok .brk, h => exact h.elim
    | .ok .cont, h => exact h.elim
    | .ok (.ret u), h =>
      obtain ⟨v, H', os, bare, un, hok', rr, q⟩ := h
      obtain rfl : v = .bl true := q
      obtain rfl : u = Value.bool true := rr
      have atT : ∀ b ∈ TS, ∃ more : Array Value, s'.heap.get? b = some { cls := .none, data := .fields (#[] ++ more) } := fun b hb => by
        obtain ⟨more, grown⟩ := un.tbls b #[] (hHT b hb)
        exact ⟨more, hok' b _ grown⟩
      have rest : ∀ b o, b ∉ TS → st.heap.get? b = some o → s'.heap.get? b = some o := fun b o nb e => by
        rcases hO b with n | ⟨e2, _⟩ | ⟨e2, n⟩
        · exact un.keep b o e n (fun z => absurd (show b ∈ ([] : List Addr) from z) (by simp)) (by simp)
        · exact absurd e2 nb
        · obtain ⟨g1, _⟩ := hok b _ n
          obtain ⟨g2, _⟩ := hok' b _ (un.frzs b _ _ n)
          rw [e] at g1
          cases g1
          exact g2
      refine ⟨rfl, ⟨fun b o e => ?_, fun b o e => ?_⟩, os, bare⟩
      · by_cases hbT : b ∈ TS
        · obtain ⟨more, at2⟩ := atT b hbT
          obtain ⟨p, hp, rfl⟩ := inTS hbT
          rw [hT0 p hp] at e
          cases e
          exact .inr (.inl ⟨((hC0 p hp).tab (hT0 p hp)).isCodeTable, rfl, #[], more, rfl, by rw [Array.empty_append] at at2 ⊢; exact at2⟩)
        · exact .inl (rest b o hbT e)
      · by_cases hbT : b ∈ TS
        · obtain ⟨more, at2⟩ := atT b hbT
          exact ⟨_, at2⟩
        · exact ⟨o, rest b o hbT e⟩
  cases hk : K.lookup a with
  | some o =>
    have e := KX a o hk
    rw [ha] at e
    cases e
    refine key (fun b => if b ∈ TS then some (.tbl #[]) else none) (fun b => ?_) (fun b hb => if_pos hb) (.inr ⟨_, us.toArray, _, hk, rfl, rfl, rfl, ?_, by simpa using rv⟩) fun z => absurd (if_neg aT) z
    · by_cases q : b ∈ TS
      · exact .inr (.inl ⟨q, if_pos q⟩)
      · exact .inl (if_neg q)
    · rw [List.size_toArray, hlen]
      exact hz
  | none =>
    refine key (fun b => if b = a then some S else if b ∈ TS then some (.tbl #[]) else none) (fun b => ?_) (fun b hb => (if_neg (fun e : b = a => aT (by rw [← e]; exact hb))).trans (if_pos hb)) (.inl (.inr ⟨{ cls := .type "list", data := .seq us.toArray }, if_pos rfl⟩)) fun _ => hk
    by_cases q : b = a
    · exact .inr (.inr ⟨q, if_pos q⟩)
    · by_cases q2 : b ∈ TS
      · exact .inr (.inl ⟨q2, (if_neg q).trans (if_pos q2)⟩)
      · exact .inl ((if_neg q).trans (if_neg q2))

theorem walk_tL {l : PySem.W.OpenLaw} {n k : Nat} {q : Program} {loose : List Str} {XP : (Str → Option Value) → Heap → Prop} {YP : World → Heap → Prop} {d : DefRec} {K : Params → PySem.W.Frag} {sp : List Addr → PySem.W.Frag → Sp}
    (hn : l.most = some n) (hn2 : n ≤ sizeLine) (hdf : d.params.defaults = []) (hr : Room k callerA) (hY : ∀ (w : World) (h : Heap), YP w h → (K w.params).In h)
    (F : ∀ (w : World) (mg : Str → Option Value) (fa : Addr) (h : Heap), YP w h → (K w.params).In h → h.Ns mainGlobals mg → mg d.name = some (.ref fa) →
      ∃ cs : List (Addr × Addr), (∀ p ∈ cs, h.get? p.2 = some (PySem.W.tabObj #[])) ∧ (∀ p ∈ cs, (K w.params).lookup p.2 = none) ∧ (∀ p ∈ cs, PySem.W.CodeHd h p.1 p.2) ∧
        ∀ base : Heap, (K w.params).In base → base.Ns mainGlobals mg → (∀ p ∈ cs, LamX.TabB base mg p.1 p.2) → FnG l.prog w (K w.params) mg base k fa (sp (cs.map Prod.snd) (K w.params)))
    (hsp : ∀ (TS : List Addr) (K : PySem.W.Frag) (H : Hp) (a : Addr) (ns : List Int), ns.length ≤ n → (∀ T ∈ TS, H T = some (.tbl #[])) → SqL K H a (ns.map V.int) → sp TS K [.ref a] H (fun v _ => v = .bl true) E0) :
    PySem.W.WalkO q loose XP YP l.row.toRowW d [] (fun f vs => PySem.call f vs) := by
  refine Att.attach_call hn hdf fun w s₀ s₁ mg mb fa o pm cd doc a vs ns G Y ho hd hcd hmg hobj hints hlen hg => ?_
  have KX := hY w _ Y
  obtain ⟨cs, hT, nT, hC, hF⟩ := F w mg fa _ Y KX G.T.g hmg
  exact law_calltL KX G.T.g G.T.b G.T.builtins G.T.nolimit hg hT nT hC G.T.bmain hobj hints (Nat.le_trans hlen hn2) hr hF fun H hH hS => hsp _ _ H a ns hlen (fun T hT => by obtain ⟨p, hp, rfl⟩ := List.mem_map.mp hT; exact hH p hp) hS
end MH
/-! Error classes of the program over any error class of Python's: their field is set, they are made and raised. -/
namespace MH
open PySem PySem.Spec PyProof.Rows L2

/-- an error class over the class B of Python's -/
structure OexG (K : PySem.W.Frag) (B newId initId : String) (bmB : List Value) (C : Addr) : Prop where
  own : ∃ nm q N bs bm sn sub ab col dd k0 k1 k2 k3 k5, K.lookup C = some (excClassObj nm q C N bs bm true sn sub ab col dd k0 k1 k2 k3 k5 newId) ∧ PySem.W.excTail bmB bm = true
  base : ExcBaseFacts B newId initId bmB
  sets : StoreFacts B bmB "object.__setattr__" "object"
  sa : PySem.W.findIn K (.ref C) "__setattr__" = some (some (.builtin "object.__setattr__"))
  exC : PySem.W.subIn K (.ref C) (.type "BaseException") = some true
  tyC : PySem.W.typeIn K (.ref C) = some (.type "type")
  kC : PySem.W.keepIn K (.ref C) = true
section
open Builtin Builtin.ObjectAttr PySem.HandSPX
variable {prog : Program} {w : World} {A : Around} {R : Result → Shared → Prop} {h : Heap} {gs : Array GenState} {dr : Drawn} {tc : Nat} {os : OsState}
/-- the first field of an error that has no dict as yet -/
theorem osa_g {K : PySem.W.Frag} {B : String} {bmB bm : List Value} {y : Str} {tk : Tok} {u : Value} {e C : Addr} {fv : Array Value} {cd : ClassData} (KX : K.In h) (he : h.get? e = some { cls := .ref C, data := .fields fv }) (hc : PySem.W.clsIn K C = some cd) (hmro : cd.mro = .ref C :: bm)
    (ht : PySem.W.excTail bmB bm = true) (S : StoreFacts B bmB "object.__setattr__" "object") (hd : cd.hasDict = true) (hno : PySem.W.findIn K (.ref C) y = some none)
    (k : ∀ h' tk' dx, (∀ b o, b ≠ e → h.get? b = some o → h'.get? b = some o) → h.objs.size ≤ dx → dx ≠ e → h'.get? e = some { cls := .ref C, dict := some dx, data := .fields fv } →
      h'.Ns1 dx (fun z => if z = y then some u else none) → R (.ok (.ret .none)) ⟨h', gs, dr, tk', os⟩) :
    codeAny (model prog w) A (.call (.builtin "object.__setattr__") ⟨[.ref e, .str y tk, u], []⟩) R ⟨h, gs, dr, tc, os⟩ := by
  have at0 : PySem.W.InstAt h e { cls := .ref C, data := .fields fv } C none := ⟨he, rfl, rfl, trivial⟩
  have fresh : e ≠ h.objs.size := Nat.ne_of_lt (Heap.lt_size he)
  have obj : cd.mro.contains (.type "object") = true := by
    rw [hmro, List.contains_cons, PySem.W.excTail_contains "object" bm ht, S.hasOwner]
    simp
  have inst : PySem.W.Looks (model prog w) h (isInstance (.ref e) (.type "object")) true := by
    refine at0.type.andThen (PySem.W.looks_mroIn KX ?_)
    unfold PySem.W.mroIn
    rw [hc, Option.bind_some, if_neg (by rw [hmro]; simp), obj]
  have step := fun {A' : Around} {Q : Unit → Shared → Prop} {E : Value → Shared → Prop} (z : Q () ⟨h, gs, dr, tc, os⟩) =>
    @PySem.W.check_slot (model prog w) A' E ⟨h, gs, dr, tc, os⟩ "object.__setattr__" "object" "__setattr__" (.ref e) [.str y tk, u] [] Q S.kind S.split inst (S.args _ _ _) z
  refine codeAny_call_builtin S.slot.plain S.entry (step ?_)
  rw [PySem.W.osa_eq, refuse_eq]
  have m1 : PySem.W.Looks (model prog w) h (mroOf (.ref C)) cd.mro := (PySem.W.looks_clsIn KX hc).andThen .now
  have m2 : PySem.W.Looks (model prog w) h (storeTaker? none) none := .now
  have m3 : PySem.W.Looks (model prog w) h (classData C) cd := PySem.W.looks_clsIn KX hc
  refine wpAny_bind (wpAny_bind (at0.type.at ?_))
  refine wpAny_bind (m1.at ?_)
  rw [hmro, PySem.W.excTail_pass _ (S.passes _) (.ref C :: bm) (show PySem.W.excTail bmB (.ref C :: bm) = true from ht)]
  refine wpAny_pure (wpAny_bind (at0.type.at ?_))
  refine wpAny_bind ((PySem.W.looks_findIn KX hno).at (wpAny_bind (m2.at ?_)))
  show wpAny _ _ (storeInOwnDict (.ref e) (.ref C) (.str y tk) y u false) _ _ _
  obtain ⟨nm, bs, mro, ns, qn, hd', sn, sb, ab, col, del⟩ := cd
  dsimp only at hd
  cases hd
  unfold storeInOwnDict ownDictForStores
  repeat (first | with_reducible refine store_in_new ?_ ?_ | with_reducible refine wpAny_loadPart_at he ?_ | with_reducible refine m3.at ?_ | wp_step)
  · have new0 := fun f => (Heap.get?_update_ne (h.push { cls := .type "dict", data := .dict #[] }) _ _ f fresh.symm).trans (Heap.get?_push_at rfl rfl)
    exact ⟨_, #[], _, new0 _, rfl, fun e he => absurd he (by simp), fun _ => rfl⟩
  · intro h' tk' hn' sb
    have he1 : (h.push { cls := .type "dict", data := .dict #[] }).get? e = some { cls := .ref C, data := .fields fv } := Heap.get?_push_of_some _ he
    refine k h' tk' h.objs.size (fun b o nb ho => ?_) (Nat.le_refl _) fresh.symm ((sb.2 e fresh).trans (Heap.get?_update_self _ he1 rfl)) hn'
    refine (sb.2 b (Nat.ne_of_lt (Heap.lt_size ho))).trans ?_
    rw [Heap.get?_update_ne _ _ _ _ nb]
    exact Heap.get?_push_of_some _ ho
end
section
variable {X : Cx} {pins : List (Addr × Obj)} {σ : L2.St} {H : Hp} {s : Shared} {a C : Addr} {f : Str} {y : V} {u : Value} {B newId initId : String} {bmB : List Value}
theorem ost_g {Q : Unit → Shared → Prop} {E : Value → Shared → Prop} {A : Around} (T : OexG X.K B newId initId bmB C) (I : Inv X pins σ H s) (e : H a = some (exo a C none)) (hno : PySem.W.findIn X.K (.ref C) f = some none) (ry : RelV y u)
    (k : ∀ dx s', H dx = none → dx ≠ a → Inv X pins σ (upd (upd H dx (exd dx [(f, y)])) a (exo a C (some dx))) s' → Q () s') : wpAny (model X.prog X.w) A (setAttr (.ref a) f u) Q E s := by
  obtain ⟨nm, q, N, bs, bm, sn, sub, ab, col, dd, k0, k1, k2, k3, k5, hC, hb⟩ := T.own
  obtain ⟨t1, ho⟩ := exo_at I.hok e
  obtain ⟨cd, hcl, hmro, hdict⟩ : ∃ cd, PySem.W.clsIn X.K C = some cd ∧ cd.mro = .ref C :: bm ∧ cd.hasDict = true := by
    refine ⟨{ name := nm, bases := bs, mro := .ref C :: bm, ns := N, qualname := q, hasDict := true, slotNames := sn, subclasses := sub, abstract := ab, collection := col }, ?_, rfl, rfl⟩
    unfold PySem.W.clsIn
    rw [hC] <;> rfl
  obtain ⟨h0, gs, dr, tc, os⟩ := s
  refine PySem.W.set_plain I.kIn (od := none) (ox := PySem.HandSPX.excO C t1) ⟨ho, rfl, rfl, trivial⟩ T.sa ?_
  refine osa_g I.kIn ho hcl hmro hb T.sets hdict hno fun h1 tk' dx kp dn dne hx hn => ?_
  have hnd : H dx = none := I.hok.fresh dn
  have off : ∀ {b : Addr}, H b = none → b ≠ a := fun n z => by
    rw [z, e] at n
    cases n
  have oth : ∀ {b : Addr} {o : HO}, H b = some o → exo a C none ≠ o → (upd (upd H dx (exd dx [(f, y)])) a (exo a C (some dx))) b = some o := fun {b o} z d => by
    rw [upd_ne (at_ne e z d), upd_ne (ne_of_none z hnd)]
    exact z
  have un : Un X.fs [] H (upd (upd H dx (exd dx [(f, y)])) a (exo a C (some dx))) h0 h1 := by
    refine ⟨fun b o z n _ _ => kp b o (off n) z, fun b o z n _ _ => ⟨o.slots, kp b o (off n) z⟩, fun b o z n _ => ?_, fun b o z _ => ?_, fun b xs z => oth z exo_tup, fun b o v z => oth z exo_frz, fun b ps z => ⟨#[], ?_⟩⟩
    · have n2 : b ≠ dx := Nat.ne_of_lt (Nat.lt_of_lt_of_le (Heap.lt_size z) dn)
      rw [upd_ne (off n), upd_ne n2]
      exact n
    · by_cases hb : b = a
      · rw [hb]
        exact ⟨_, hx⟩
      · exact ⟨o, kp b o hb z⟩
    · rw [Array.append_empty]
      exact oth z exo_tbl
  refine k dx _ hnd dne (I.un (t' := tk') un fun b o z => ?_)
  by_cases hba : b = a
  · subst hba
    rw [upd_same] at z
    cases z
    exact exo_ok hx
  by_cases hbd : b = dx
  · subst hbd
    rw [upd_ne hba, upd_same] at z
    cases z
    exact exd_ok hn (relO_put (fs := []) ry fun g => True.intro)
  rw [upd_ne hba, upd_ne hbd] at z
  refine (I.hok b o z).stay (fun c v hc w1 => kp c v ?_ w1) (fun c hc => oth hc exo_own) fun c xs hc => oth hc exo_tup
  rcases hc with hc | hc
  · rw [hc]
    exact hba
  · exact at_ne e hc exo_own
def tOstG (K : PySem.W.Frag) (B newId initId : String) (bmB : List Value) (f : Str) (to te : TE) : TS := fun D σ H => te σ H fun y H1 => to σ H1 fun x H2 => ∃ a C : Addr, x = .ref a ∧ OexG K B newId initId bmB C ∧ PySem.W.findIn K (.ref C) f = some none ∧
  H2 a = some (exo a C none) ∧ ∀ dx, H2 dx = none → dx ≠ a → D.nx σ (upd (upd H2 dx (exd dx [(f, y)])) a (exo a C (some dx)))
theorem ps_ostG {o e : Expr} {to te : TE} {p' pos : Pos} (ho : PE X o to) (he : PE X e te) (hs : swapsWith e (some (.Attribute o f p')) pos.line X.env = pure false := by rfl) : PS X (.Assign [.Attribute o f p'] e pos) (tOstG X.K B newId initId bmB f to te) := by
  refine ⟨fun pins s σ H D I h => plainObj_wpAny_Assign_Attribute (thn (he.run pins s σ H _ I h) fun v s1 ⟨y, H1, I1, r1, q1⟩ => ?_) hs⟩
  refine thn (ho.run pins s1 σ H1 _ I1 q1) fun u s2 ⟨x, H2, I2, r2, q2⟩ => ?_
  obtain ⟨a, C, rfl, T, hno, ea, q⟩ := q2
  obtain rfl : u = Value.ref a := r2
  exact ost_g T I2 ea hno r1 fun dx s' n ne J => ⟨σ, _, J, q dx n ne⟩
/-- C(e, ..) that is raised -/
theorem pmk_g {CX : CXT} {x : Str} {e : Expr} {es : List Expr} {ta : TA} {p pos : Pos} {fI : Addr} {k : Nat} {fd : FuncData} {ps : List Str} {sp : Sp} {ds : List Value} {dvs : List V} (T : OexG X.K B newId initId bmB C) (iC : PySem.W.findIn X.K (.ref C) "__init__" = some (some (.ref fI))) (tI : PySem.W.typeIn X.K (.ref fI) = some (.type "function"))
    (F1 : FnOk X.prog X.w X.K X.mg X.base CX k fI fd ps sp) (hr : Room (k + 1) X.A) (hb : Binds X.K fd ps ds) (hd : Vals dvs ds) (hx : Passes CX X fun _ _ _ => False) (hg : Gl X x) (hm : X.mg x = some (.ref C)) (ha : PA X (e :: es) ta)
    (hdb : (x == ("__debug__" : Str)) = false := by decide) (he : starEach (e :: es) X.env = (false, eval e X.env) :: starEach es X.env := by rfl) (hpl : (backTo pos (starEach es X.env)).any (·.1) = false := by rfl) :
    PMk X (.Call (.Name x p) (e :: es) [] pos) (tMkO C sp dvs ta) := by
  intro pins s σ H Q I h
  obtain ⟨nm, q, N, bs, bm, sn, sub, ab, col, dd, k0, k1, k2, k3, k5, hC, hbt⟩ := T.own
  refine wpAny_Call_Name_kw (ld_glob I hg hm (PySem.W.callWith_K (h₀ := X.base) I.ok.mod.kin T.kC (thn (ha.run pos pins s σ H _ I h) fun us s1 ⟨vs, H1, I1, r1, hz, q1⟩ => ⟨I1.kIn, ?_⟩) he hpl) hdb)
  show wpAny _ _ (call (.ref C) us) _ _ _
  obtain ⟨h0, gs, dr, tc, os⟩ := s1
  have up1 : h0.objs.size ≤ h0.objs.size + 1 := Nat.le_succ _
  have hq := q1 (h0.objs.size + 1) (I1.hok.fresh up1)
  have more : ∀ b o, h0.get? b = some o → ((h0.push (PySem.W.kdv_tup us)).push (PySem.HandSPX.excO C h0.objs.size)).get? b = some o := fun b o z => Heap.get?_push_of_some _ (Heap.get?_push_of_some _ z)
  have made : ((h0.push (PySem.W.kdv_tup us)).push (PySem.HandSPX.excO C h0.objs.size)).get? (h0.objs.size + 1) = some (PySem.HandSPX.excO C h0.objs.size) := by heap_get
  have I2 : Inv X pins σ (upd H1 (h0.objs.size + 1) (exo (h0.objs.size + 1) C none)) ⟨(h0.push (PySem.W.kdv_tup us)).push (PySem.HandSPX.excO C h0.objs.size), gs, dr, tc, os⟩ :=
    I1.laid (t' := tc) (h' := (h0.push (PySem.W.kdv_tup us)).push (PySem.HandSPX.excO C h0.objs.size)) more up1 (exo_ok made)
  have r2 : Vals (V.ref (h0.objs.size + 1) :: (vs ++ dvs)) (Value.ref (h0.objs.size + 1) :: (us ++ ds)) := .cons rfl (r1.append hd)
  have hl : (Value.ref (h0.objs.size + 1) :: us ++ ds).length = ps.length := (F1.len _ _ _ _ hq ▸ r2.length).symm
  have hus : us.length ≤ sizeLine := by
    have := Paired.length r1
    exact Nat.le_trans (show us.length ≤ 1000 by omega) (by decide)
  have inner := F1.run (X.A.under (.builtin "type.__call__" ⟨.ref C :: us, []⟩)) X.stack _ _ ⟨Value.ref (h0.objs.size + 1) :: us, []⟩ (Value.ref (h0.objs.size + 1) :: (us ++ ds)) _ _ (fun _ _ _ => False)
    (hr.make C us []) (I2.env0.make C us []) (hb _ (Value.ref (h0.objs.size + 1) :: us) I2.kIn hl) r2 hq
  refine wpAny_call (PySem.HandSPX.call_own T.base (fun Y => PySem.W.excTail_contains Y bm hbt) (I1.kIn _ _ hC) (PySem.W.looks_findIn I1.kIn iC) (fun self => PySem.W.bind_fn I1.kIn self tI) hus (codeAny_mono inner fun r s' z => ?_))
  match r, z with
  | .error er, z => exact hx pins σ _ _ er s' I2 z
  | .ok .next, z => exact z.elim
  | .ok .brk, z => exact z.elim
  | .ok .cont, z => exact z.elim
  | .ok (.ret u), z =>
    obtain ⟨v, H2, os2, bare2, un2, hok2, rv, ev, d, fs, ea, ed, hd1, q2⟩ := z
    cases ev
    obtain ⟨h2, g2, d2, t2, os'⟩ := s'
    exact ⟨rv, mk_end (raises_own T.exC T.tyC) I1 up1 more un2 hok2 os2 bare2 ea ed hd1 q2⟩
end
end MH
/-! Errors made as values, by position and by keyword, held and read. -/
namespace PySem.HandSPX
open PySem.W PySem.Calls PyProof.Rows
section
section
variable {M : Model} {A : Around} {E : Value → Shared → Prop} {h : Heap} {g : Array GenState} {d : Drawn} {t : Nat} {os : OsState}
variable {nm q : Str} {C N : Addr} {bs bm bmB : List Value} {hdct : Bool} {sn : List Str} {sub : List Value} {ab : Bool} {col : Option Bool} {dd : Option Addr} {k0 k1 k2 k3 k5 : Option Value} {B newId initId : String} {kw : List (Str × Value)}
theorem check_new_ownK (F : ExcBaseFacts B newId initId bmB) (hT : ∀ X : String, bm.contains (.type X) = bmB.contains (.type X)) {rest : List Value} {Q : Unit → Shared → Prop}
    (hC : h.get? C = some (excClassObj nm q C N bs bm hdct sn sub ab col dd k0 k1 k2 k3 k5 newId)) (hq : Q () ⟨h, g, d, t, os⟩) : wpAny M A (checkBuiltinCall newId ⟨.ref C :: rest, kw⟩) Q E ⟨h, g, d, t, os⟩ := by
  have hcont : (Value.ref C :: bm).contains (.type B) = true := by rw [List.contains_cons, hT, F.hasB, Bool.or_true]
  have hstar := F.noStar
  simp only [checkBuiltinCall, F.newKind, F.newSplit, F.newRow]
  repeat (first | refine wpAny_loadPart_at hC ?_ | (refine wpAny_isSubtype_exc hC ?_; rw [hcont]) | refine wpAny_staticBase_exc hC ?_ | refine wpAny_madeBy_exc hC ?_ | simp only [bne_self_eq_false, Bool.false_eq_true, if_false] | wp_step)
  exact hq
end
section
variable {prog : Program} {w : World} {A : Around} {E : Value → Shared → Prop} {R : Result → Shared → Prop} {h : Heap} {g : Array GenState} {d : Drawn} {t : Nat} {os : OsState}
variable {nm q : Str} {C N : Addr} {bs bm bmB : List Value} {hdct : Bool} {sn : List Str} {sub : List Value} {ab : Bool} {col : Option Bool} {dd : Option Addr} {k0 k1 k2 k3 k5 : Option Value} {B newId initId : String} {kw : List (Str × Value)}
theorem new_ownK (F : ExcBaseFacts B newId initId bmB) (hT : ∀ X : String, bm.contains (.type X) = bmB.contains (.type X)) {rest : List Value}
    (hC : h.get? C = some (excClassObj nm q C N bs bm hdct sn sub ab col dd k0 k1 k2 k3 k5 newId))
    (hq : R (.ok (.ret (.ref (h.objs.size + 1)))) ⟨(h.push { cls := .type "tuple", data := .seq rest.toArray }).push
      { cls := .ref C, data := .fields #[.ref h.objs.size, .none, .none, .none, .bool false, .none] }, g, d, t, os⟩) (hrest : rest.length ≤ sizeLine) :
    codeAny (model prog w) A (.builtin newId ⟨.ref C :: rest, kw⟩) R ⟨h, g, d, t, os⟩ := by
  have hends := F.ends
  have hcB : (Value.ref C :: bm).contains (.type B) = true := by rw [List.contains_cons, hT, F.hasB, Bool.or_true]
  have hcA : (Value.ref C :: bm).contains (.type "AttributeError") = false := by rw [List.contains_cons, hT, F.noAttr]; rfl
  have hcN : (Value.ref C :: bm).contains (.type "NameError") = false := by rw [List.contains_cons, hT, F.noName]; rfl
  refine codeAny_builtinAt F.entry ?_
  unfold Builtin.«BaseException.__new__»
  refine wpAt_bind ?_
  show wpAt _ _ _ (stack >>= _) _ _ _
  refine wpAt_bind (wpAt_stack fun p below => wpAt_of_wpAny ?_)
  wp_walk
  refine wpAt_of_wpAny ?_
  rw [F.owner]
  repeat (first | with_reducible refine wpAny_madeHere_exc F.canon hC ?_ | with_reducible refine wpAny_loadPart_at hC ?_ | (with_reducible refine wpAny_isSubtype_exc hC ?_; first | rw [hcB] | rw [hcA] | rw [hcN]) | wp_step)
  show R _ _
  rw [Heap.size_push]
  exact hq
theorem type_call_ownK (F : ExcBaseFacts B newId initId bmB) (hT : ∀ X : String, bm.contains (.type X) = bmB.contains (.type X)) {rest : List Value} {fI : Value} {Q : Fin → Shared → Prop}
    (hC : h.get? C = some (excClassObj nm q C N bs bm hdct sn sub ab col dd k0 k1 k2 k3 k5 newId))
    (hi : W.Looks (model prog w) h (typeLookup (.ref C) "__init__") (some fI)) (hb : ∀ self, W.Looks (model prog w) h (bindSpecial fI self) (fI, [self])) (hrest : rest.length ≤ sizeLine)
    (hq : codeAny (model prog w) A (.call fI ⟨.ref (h.objs.size + 1) :: rest, kw⟩)
      (fun r s' => match r with | .ok (.ret v) => v = .none ∧ Q (.done (.ret (.ref (h.objs.size + 1)))) s' | .ok _ => False | .error e => E e s')
      ⟨(h.push (W.kdv_tup rest)).push (excO C h.objs.size), g, d, t, os⟩) :
    wpAny (model prog w) A (Builtin.«type.__call__» ⟨.ref C :: rest, kw⟩) Q E ⟨h, g, d, t, os⟩ := by
  repeat (first | with_reducible refine wpAny_loadPart_at hC ?_ | with_reducible refine wpAny_madeBy_exc hC ?_ | wp_step)
  refine codeAny_call_builtin_code (Code.quiet_builtin _ F.quiet) (check_new_ownK F hT hC ?_)
  refine new_ownK F hT hC ?_ hrest
  show wpAny _ _ _ _ _ _
  have k : ∀ b o, h.get? b = some o → ((h.push (W.kdv_tup rest)).push (excO C h.objs.size)).get? b = some o := fun b o e => Heap.get?_push_of_some _ (Heap.get?_push_of_some _ e)
  have hC₁ := k _ _ hC
  have hget : ((h.push (W.kdv_tup rest)).push (excO C h.objs.size)).get? (h.objs.size + 1) = some (excO C h.objs.size) := by heap_get
  have hcC : (Value.ref C :: bm).contains (.ref C) = true := by simp
  have i1 := hi.keeps k
  have b1 := (hb (.ref (h.objs.size + 1))).keeps k
  unfold isInstance
  repeat (first | with_reducible refine wpAny_loadPart_at hget ?_ | (with_reducible refine wpAny_isSubtype_exc hC₁ ?_; rw [hcC]) | wp_step)
  show wpAny _ _ (typeLookup (.ref C) _) _ _ _
  refine i1.at ?_
  refine wpAny_holding (wpAny_bind (b1.at ?_))
  refine wpAny_bind (wpAny_call (codeAny_mono hq fun r s' z => ?_))
  rcases r with e | (v | _ | _ | _) <;> first | exact z | exact z.elim | skip
  obtain ⟨rfl, z⟩ := z
  first
    | exact wpAny_pure (wpAny_pure z)
    | (wp_walk; exact z)
theorem call_ownK (F : ExcBaseFacts B newId initId bmB) (hT : ∀ X : String, bm.contains (.type X) = bmB.contains (.type X)) {rest : List Value} {fI : Value}
    (hC : h.get? C = some (excClassObj nm q C N bs bm hdct sn sub ab col dd k0 k1 k2 k3 k5 newId))
    (hi : W.Looks (model prog w) h (typeLookup (.ref C) "__init__") (some fI)) (hb : ∀ self, W.Looks (model prog w) h (bindSpecial fI self) (fI, [self])) (hrest : rest.length ≤ sizeLine)
    (hq : codeAny (model prog w) (A.under (.builtin "type.__call__" ⟨.ref C :: rest, kw⟩)) (.call fI ⟨.ref (h.objs.size + 1) :: rest, kw⟩) (W.InitBack (h.objs.size + 1) R)
      ⟨(h.push (W.kdv_tup rest)).push (excO C h.objs.size), g, d, t, os⟩) :
    codeAny (model prog w) A (.call (.ref C) ⟨rest, kw⟩) R ⟨h, g, d, t, os⟩ := by
  have f1 := tc_lookup
  have f2 := tc_bind (.ref C)
  have hTy : (⟨h, g, d, t, os⟩ : Shared).TypeIs (.ref C) "type" := ⟨_, hC, rfl⟩
  have typ : PySem.W.Looks (model prog w) h (isInstance (.ref C) (.type "type")) true := by
    intro A' Q' E' s' k' q'
    unfold isInstance
    refine wpAny_bind (wpAny_typeOf_ref (k' _ _ hC) ?_)
    rw [show isSubtype (.type "type") (.type "type") = pure true from by rw [isSubtype_type]; kernel_rfl]
    exact wpAny_pure q'
  refine codeAny_of_tree ?_
  show wpAny _ _ (callAny (.ref C) _) _ _ _
  repeat (any_goals (first | assumption | with_reducible refine wpAny_loadPart_at hC ?_ | wp_step))
  refine ⟨rfl, ?_⟩
  refine codeAny_call_builtin_at (Code.quiet_builtin _ (by decide +kernel)) entry_typeCall (PySem.W.check_slot tc_kind tc_split typ (PySem.W.tc_args _ _ _) (type_call_ownK F hT hC hi hb hrest ?_))
  refine codeAny_mono hq fun r s' z => ?_
  rcases r with e | (v | _ | _ | _) <;> exact z
end
end
end PySem.HandSPX
namespace MH
open PySem PySem.Spec PyProof.Rows L2

/-! ### errors that are held -/
/-- the error at a: its class, its fields -/
def ErV (H : Hp) (a C : Addr) (fs : List (Str × V)) : Prop := ∃ d, H a = some (exo a C (some d)) ∧ H d = some (exd d fs)
/-- the error at a: its class; it has no field -/
def ErN (H : Hp) (a C : Addr) : Prop := H a = some (exo a C none)
theorem ErV.same {H H' : Hp} {a C : Addr} {fs : List (Str × V)} (e : ErV H a C fs) (s : Same H H') : ErV H' a C fs := by
  obtain ⟨d, h1, h2⟩ := e
  exact ⟨d, s _ _ h1, s _ _ h2⟩
theorem ErN.same {H H' : Hp} {a C : Addr} (e : ErN H a C) (s : Same H H') : ErN H' a C := s _ _ e
section
variable {X : Cx} {pins : List (Addr × Obj)} {σ : L2.St} {H : Hp} {s : Shared} {a C : Addr} {fs : List (Str × V)}
theorem ErV.inst (I : Inv X pins σ H s) (e : ErV H a C fs) : ∃ (d : Addr) (o od : Obj), PySem.W.InstAt s.heap a o C (some od) ∧ H d = some (exd d fs) ∧ o.dict = some d ∧ s.heap.get? d = some od := by
  obtain ⟨d, e1, e2⟩ := e
  obtain ⟨t1, h1⟩ := exo_at I.hok e1
  obtain ⟨mA, hns, hr⟩ := exd_at I.hok e2
  obtain ⟨od, es, ep, ho, _⟩ := id hns
  exact ⟨d, _, od, ⟨h1, rfl, rfl, ho⟩, e2, rfl, ho⟩
theorem ErN.inst (I : Inv X pins σ H s) (e : ErN H a C) : ∃ o : Obj, PySem.W.InstAt s.heap a o C none := by
  obtain ⟨t1, h1⟩ := exo_at I.hok e
  exact ⟨_, h1, rfl, rfl, True.intro⟩
end
/-- isinstance(v, C) of an error -/
def rIsV (K : PySem.W.Frag) : List V → Hp → VK → Prop := fun xs H Q => ∃ (a C : Addr) (c : V) (cv : Value) (b : Bool), xs = [.ref a, c] ∧ ((∃ fs, ErV H a C fs) ∨ ErN H a C) ∧ ExcK K C ∧ (∀ u, RelV c u → u = cv) ∧ PySem.W.kitOne K (.ref C) cv = some b ∧ Q (.bl b) H
theorem call_isV {X : Cx} : CallR X (.builtin "isinstance") (rIsV X.K) := by
  intro pins s σ H xs us Q I r h
  obtain ⟨a, C, c, cv, b, rfl, e, T, hcv, ek, q⟩ := h
  cases r with
  | cons rx rr =>
    cases rr with
    | cons rt rr =>
      cases rr
      cases rx
      have ec := hcv _ rt
      subst ec
      rcases e with ⟨fs, e⟩ | e
      · obtain ⟨d, o, od, J, _⟩ := e.inst I
        exact PySem.W.kia_one (PySem.W.kitx_exc T.cl T.hg T.hk T.hs T.ha T.hn T.ht T.hm) I.kIn J ek (fun z => nomatch z) fun tk => ⟨.bl b, H, I.kept (t' := tk) fun _ _ z => z, rfl, q⟩
      · obtain ⟨o, J⟩ := e.inst I
        exact PySem.W.kia_one (PySem.W.kitx_exc T.cl T.hg T.hk T.hs T.ha T.hn T.ht T.hm) I.kIn J ek (fun z => nomatch z) fun tk => ⟨.bl b, H, I.kept (t' := tk) fun _ _ z => z, rfl, q⟩
/-- e.f of an error -/
def tXv (K : PySem.W.Frag) (f : Str) (te : TE) : TE := fun σ H Q => te σ H fun x H1 => ∃ (a C : Addr) (fs : List (Str × V)) (v : V), x = .ref a ∧ ErV H1 a C fs ∧ ExcK K C ∧ PySem.W.findIn K (.ref C) f = some none ∧ fs.lookup f = some v ∧ Q v H1
theorem pe_xv {X : Cx} {K : PySem.W.Frag} {e : Expr} {te : TE} {pos : Pos} {n : Str} (eK : X.K = K) (he : PE X e te) (hb : attributeBase e n X.env (eval e X.env) = eval e X.env := by rfl) : PE X (.Attribute e n pos) (tXv K n te) := by
  subst eK
  refine ⟨fun pins s σ H Q I h => ?_⟩
  refine attr_of hb (thn (he.run pins s σ H _ I h) fun u s1 hh => ?_)
  obtain ⟨x, H1, I1, rx, a, C, fs, v, ex, ea, T, hno, l, q⟩ := hh
  subst ex
  obtain rfl : u = Value.ref a := rx
  obtain ⟨d, o, od, J, e2, ed, eo⟩ := ea.inst I1
  obtain ⟨mA, hns, hr⟩ := exd_at I1.hok e2
  obtain ⟨od', ho, hl⟩ := lookIn_ns hns
  obtain rfl : od' = od := Option.some.inj (ho.symm.trans eo)
  obtain ⟨u, hu, ru⟩ := RelO.some_of (v := v) (o := mA n) (by rw [← l]; exact hr n)
  exact HandSPX.exc_get I1.kIn J T.hg T.hk T.hs (PySem.W.findObj_own T.hd hno rfl (by rw [hl, hu])) (handed_of ru) ⟨v, H1, I1.tok _, ru, q⟩
/-! ### errors that are made -/
def tMkV (C : Addr) (sp : Sp) (ta : TA) : TE := fun σ H Q => ta σ H fun vs H1 => vs.length ≤ 1000 ∧ ∀ a, H1 a = none → sp (.ref a :: vs) (upd H1 a (exo a C none)) (fun v H2 => v = .non ∧ Q (.ref a) H2) (fun _ _ _ => False)
def tMkVK (C : Addr) (sp : Sp) (gV : List V → List V → List V) (m : Nat) (tk : TA) : TE := fun σ H Q => tk σ H fun zs H1 => zs.length = m ∧ ∀ a, H1 a = none → sp (gV [.ref a] zs) (upd H1 a (exo a C none)) (fun v H2 => v = .non ∧ Q (.ref a) H2) (fun _ _ _ => False)
section
variable {X : Cx} {B newId initId : String} {bmB : List Value} {C : Addr}
theorem run_mkV {CX : CXT} {fI : Addr} {k : Nat} {fd : FuncData} {ps : List Str} {sp : Sp} {pins : List (Addr × Obj)} {σ : L2.St} {H1 : Hp} {s1 : Shared} {Q : VK} {us args : List Value} {kw : List (Str × Value)} {vs : List V}
    (T : OexG X.K B newId initId bmB C) (iC : PySem.W.findIn X.K (.ref C) "__init__" = some (some (.ref fI))) (tI : PySem.W.typeIn X.K (.ref fI) = some (.type "function"))
    (F1 : FnOk X.prog X.w X.K X.mg X.base CX k fI fd ps sp) (hr : Room (k + 1) X.A) (hx : Passes CX X fun _ _ _ => False) (I1 : Inv X pins σ H1 s1) (hus : us.length ≤ sizeLine)
    (a : Addr) (ea : a = s1.heap.objs.size + 1) (hb : ∀ s : Shared, X.K.In s.heap → BindsTo s fd ⟨.ref a :: us, kw⟩ (ps.zip args)) (r2 : Vals vs args)
    (hq : sp vs (upd H1 a (exo a C none)) (fun v H2 => v = .non ∧ Q (.ref a) H2) (fun _ _ _ => False)) :
    wpAny (model X.prog X.w) X.A (call (.ref C) us kw) (EP X pins σ Q) X.xe s1 := by
  obtain ⟨nm, q, N, bs, bm, sn, sub, ab, col, dd, k0, k1, k2, k3, k5, hC, hbt⟩ := T.own
  obtain ⟨h0, gs, dr, tc, os⟩ := s1
  subst ea
  have up1 : h0.objs.size ≤ h0.objs.size + 1 := Nat.le_succ _
  have more : ∀ b o, h0.get? b = some o → ((h0.push (PySem.W.kdv_tup us)).push (PySem.HandSPX.excO C h0.objs.size)).get? b = some o := fun b o z => Heap.get?_push_of_some _ (Heap.get?_push_of_some _ z)
  have made : ((h0.push (PySem.W.kdv_tup us)).push (PySem.HandSPX.excO C h0.objs.size)).get? (h0.objs.size + 1) = some (PySem.HandSPX.excO C h0.objs.size) := by heap_get
  have I2 : Inv X pins σ (upd H1 (h0.objs.size + 1) (exo (h0.objs.size + 1) C none)) ⟨(h0.push (PySem.W.kdv_tup us)).push (PySem.HandSPX.excO C h0.objs.size), gs, dr, tc, os⟩ :=
    I1.laid (t' := tc) (h' := (h0.push (PySem.W.kdv_tup us)).push (PySem.HandSPX.excO C h0.objs.size)) more up1 (exo_ok made)
  have inner := F1.run (X.A.under (.builtin "type.__call__" ⟨.ref C :: us, kw⟩)) X.stack _ _ ⟨Value.ref (h0.objs.size + 1) :: us, kw⟩ args _ _ (fun _ _ _ => False)
    (hr.make C us kw) (I2.env0.make C us kw) (hb _ I2.kIn) r2 hq
  refine wpAny_call (PySem.HandSPX.call_ownK T.base (fun Y => PySem.W.excTail_contains Y bm hbt) (I1.kIn _ _ hC) (PySem.W.looks_findIn I1.kIn iC) (fun self => PySem.W.bind_fn I1.kIn self tI) hus (codeAny_mono inner fun r s' z => ?_))
  match r, z with
  | .error er, z => exact hx pins σ _ _ er s' I2 z
  | .ok .next, z => exact z.elim
  | .ok .brk, z => exact z.elim
  | .ok .cont, z => exact z.elim
  | .ok (.ret u), z =>
    obtain ⟨v, H', I3, rv, ev, q3⟩ := I2.after z
    subst ev
    exact ⟨rv, ⟨V.ref (h0.objs.size + 1), H', I3, rfl, q3⟩⟩
theorem pe_mkV {CX : CXT} {x : Str} {e : Expr} {es : List Expr} {ta : TA} {p pos : Pos} {fI : Addr} {k : Nat} {fd : FuncData} {ps : List Str} {sp : Sp}
    (T : OexG X.K B newId initId bmB C) (iC : PySem.W.findIn X.K (.ref C) "__init__" = some (some (.ref fI))) (tI : PySem.W.typeIn X.K (.ref fI) = some (.type "function"))
    (F1 : FnOk X.prog X.w X.K X.mg X.base CX k fI fd ps sp) (hr : Room (k + 1) X.A) (hb : Binds X.K fd ps []) (hx : Passes CX X fun _ _ _ => False) (hg : Gl X x) (hm : X.mg x = some (.ref C)) (ha : PA X (e :: es) ta)
    (hdb : (x == ("__debug__" : Str)) = false := by decide) (he : starEach (e :: es) X.env = (false, eval e X.env) :: starEach es X.env := by rfl) (hpl : (backTo pos (starEach es X.env)).any (·.1) = false := by rfl) :
    PE X (.Call (.Name x p) (e :: es) [] pos) (tMkV C sp ta) := by
  refine ⟨fun pins s σ H Q I h => ?_⟩
  refine wpAny_Call_Name_kw (ld_glob I hg hm (PySem.W.callWith_K (h₀ := X.base) I.ok.mod.kin T.kC (thn (ha.run pos pins s σ H _ I h) fun us s1 ⟨vs, H1, I1, r1, hz, q1⟩ => ⟨I1.kIn, ?_⟩) he hpl) hdb)
  have hq := q1 (s1.heap.objs.size + 1) (I1.hok.fresh (Nat.le_succ _))
  have r2 : Vals (V.ref (s1.heap.objs.size + 1) :: vs) (Value.ref (s1.heap.objs.size + 1) :: us) := .cons rfl r1
  have hus : us.length ≤ sizeLine := by
    have := Paired.length r1
    exact Nat.le_trans (show us.length ≤ 1000 by omega) (by decide)
  have hl : (Value.ref (s1.heap.objs.size + 1) :: us ++ []).length = ps.length := by
    rw [List.append_nil]
    exact (F1.len _ _ _ _ hq ▸ r2.length).symm
  refine run_mkV (args := Value.ref (s1.heap.objs.size + 1) :: us) T iC tI F1 hr hx I1 hus _ rfl (fun s z => ?_) r2 hq
  have y := hb s (Value.ref (s1.heap.objs.size + 1) :: us) z hl
  rw [List.append_nil] at y
  exact y
theorem pe_mkVK {CX : CXT} {x : Str} {kws : List Keyword} {tk : TA} {p pos : Pos} {fI : Addr} {k : Nat} {fd : FuncData} {ps ks : List Str} {sp : Sp} {g : List Value → List Value → List Value} {gV : List V → List V → List V}
    (T : OexG X.K B newId initId bmB C) (iC : PySem.W.findIn X.K (.ref C) "__init__" = some (some (.ref fI))) (tI : PySem.W.typeIn X.K (.ref fI) = some (.type "function"))
    (F1 : FnOk X.prog X.w X.K X.mg X.base CX k fI fd ps sp) (hr : Room (k + 1) X.A) (hb : KBn X.K fd ps 1 ks g gV) (hx : Passes CX X fun _ _ _ => False) (hg : Gl X x) (hm : X.mg x = some (.ref C)) (hkw : PK X kws tk)
    (hall : (backToKw pos (keywordEach kws X.env)).all (·.1.isSome) = true := by rfl) (hks : (backToKw pos (keywordEach kws X.env)).filterMap (·.1) = ks := by rfl)
    (hdb : (x == ("__debug__" : Str)) = false := by decide) (hpl : ((backTo pos (starEach [] X.env)).any (·.1) || (backToKw pos (keywordEach kws X.env)).any (·.1.isNone)) = false := by rfl) :
    PE X (.Call (.Name x p) [] kws pos) (tMkVK C sp gV ks.length tk) := by
  refine ⟨fun pins s σ H Q I h => ?_⟩
  refine wpAny_Call_Name_kw (ld_glob I hg hm ?_ hdb)
  refine PySem.W.callWith_KW0 (h₀ := X.base) I.ok.mod.kin T.kC hall ?_ hpl
  refine thn (hkw.run pos pins s σ H _ I h) fun ws s2 ⟨zs, H2, I2, rz, l2, q2⟩ => ⟨I2.kIn, ?_⟩
  rw [hks]
  have hq := q2 (s2.heap.objs.size + 1) (I2.hok.fresh (Nat.le_succ _))
  have r1 : Vals [V.ref (s2.heap.objs.size + 1)] [Value.ref (s2.heap.objs.size + 1)] := .cons rfl .nil
  have e2 : ws.length = ks.length := rz.length.symm.trans l2
  exact run_mkV (us := []) (args := g [Value.ref (s2.heap.objs.size + 1)] ws) T iC tI F1 hr hx I2 (Nat.zero_le _) _ rfl (fun s z => hb.to s [Value.ref (s2.heap.objs.size + 1)] ws z rfl e2) (hb.rel r1 rz) hq
end
/-! ### a further field of an error over any of Python's classes -/
section
open Builtin Builtin.ObjectAttr PySem.HandSPX PySem.OEX
variable {prog : Program} {w : World} {A : Around} {R : Result → Shared → Prop} {h : Heap} {gs : Array GenState} {dr : Drawn} {tc : Nat} {os : OsState}
theorem osa_gold {K : PySem.W.Frag} {B : String} {bmB bm : List Value} {y : Str} {tk : Tok} {u : Value} {e C dx : Addr} {fv : Array Value} {cd : ClassData} {m0 : Str → Option Value} {nl : List Str} (KX : K.In h) (he : h.get? e = some { cls := .ref C, dict := some dx, data := .fields fv })
    (hns : h.Ns1 dx m0) (hw : Within m0 nl) (hz : nl.length ≤ 1000) (hc : PySem.W.clsIn K C = some cd) (hmro : cd.mro = .ref C :: bm)
    (ht : PySem.W.excTail bmB bm = true) (S : StoreFacts B bmB "object.__setattr__" "object") (hd : cd.hasDict = true) (hno : PySem.W.findIn K (.ref C) y = some none)
    (k : ∀ h' tk', (∀ b o, b ≠ dx → h.get? b = some o → h'.get? b = some o) → h'.Ns1 dx (fun z => if z = y then some u else m0 z) → R (.ok (.ret .none)) ⟨h', gs, dr, tk', os⟩) :
    codeAny (model prog w) A (.call (.builtin "object.__setattr__") ⟨[.ref e, .str y tk, u], []⟩) R ⟨h, gs, dr, tc, os⟩ := by
  obtain ⟨oD, esD, epD, hoD, hdD, _⟩ := hns.count hw
  have at0 : PySem.W.InstAt h e { cls := .ref C, dict := some dx, data := .fields fv } C (some oD) := ⟨he, rfl, rfl, hoD⟩
  have obj : cd.mro.contains (.type "object") = true := by
    rw [hmro, List.contains_cons, PySem.W.excTail_contains "object" bm ht, S.hasOwner]
    simp
  have inst : PySem.W.Looks (model prog w) h (isInstance (.ref e) (.type "object")) true := by
    refine at0.type.andThen (PySem.W.looks_mroIn KX ?_)
    unfold PySem.W.mroIn
    rw [hc, Option.bind_some, if_neg (by rw [hmro]; simp), obj]
  have step := fun {A' : Around} {Q : Unit → Shared → Prop} {E : Value → Shared → Prop} (z : Q () ⟨h, gs, dr, tc, os⟩) =>
    @PySem.W.check_slot (model prog w) A' E ⟨h, gs, dr, tc, os⟩ "object.__setattr__" "object" "__setattr__" (.ref e) [.str y tk, u] [] Q S.kind S.split inst (S.args _ _ _) z
  refine codeAny_call_builtin S.slot.plain S.entry (step ?_)
  rw [PySem.W.osa_eq, refuse_eq]
  have m1 : PySem.W.Looks (model prog w) h (mroOf (.ref C)) cd.mro := (PySem.W.looks_clsIn KX hc).andThen .now
  have m2 : PySem.W.Looks (model prog w) h (storeTaker? none) none := .now
  have m3 : PySem.W.Looks (model prog w) h (classData C) cd := PySem.W.looks_clsIn KX hc
  refine wpAny_bind (wpAny_bind (at0.type.at ?_))
  refine wpAny_bind (m1.at ?_)
  rw [hmro, PySem.W.excTail_pass _ (S.passes _) (.ref C :: bm) (show PySem.W.excTail bmB (.ref C :: bm) = true from ht)]
  refine wpAny_pure (wpAny_bind (at0.type.at ?_))
  refine wpAny_bind ((PySem.W.looks_findIn KX hno).at (wpAny_bind (m2.at ?_)))
  show wpAny _ _ (storeInOwnDict (.ref e) (.ref C) (.str y tk) y u false) _ _ _
  obtain ⟨nm, bs, mro, ns, qn, hd', sn, sb, ab, col, del⟩ := cd
  dsimp only at hd
  cases hd
  unfold storeInOwnDict ownDictForStores
  repeat (first | with_reducible refine store_in_old hns hw hz ?_ | with_reducible refine wpAny_loadPart_at he ?_ | with_reducible refine m3.at ?_ | wp_step)
  intro h' tk' hn' hs
  exact k h' tk' (fun b o hb ho => (hs.2 b hb).trans ho) hn'
end
section
variable {X : Cx} {pins : List (Addr × Obj)} {σ : L2.St} {H : Hp} {s : Shared} {a C dx : Addr} {f : Str} {y : V} {u : Value} {B newId initId : String} {bmB : List Value} {fs : List (Str × V)}
theorem ost_gold {Q : Unit → Shared → Prop} {E : Value → Shared → Prop} {A : Around} (T : OexG X.K B newId initId bmB C) (I : Inv X pins σ H s) (e : H a = some (exo a C (some dx))) (ed : H dx = some (exd dx fs)) (hl : fs.length ≤ 900) (hno : PySem.W.findIn X.K (.ref C) f = some none) (ry : RelV y u)
    (k : ∀ s', Inv X pins σ (upd H dx (exd dx ((f, y) :: fs))) s' → Q () s') : wpAny (model X.prog X.w) A (setAttr (.ref a) f u) Q E s := by
  obtain ⟨nm, q, N, bs, bm, sn, sub, ab, col, dd, k0, k1, k2, k3, k5, hC, hb⟩ := T.own
  obtain ⟨t1, ho⟩ := exo_at I.hok e
  obtain ⟨mA, hns, rel⟩ := exd_at I.hok ed
  have hw := within_of rel
  obtain ⟨cd, hcl, hmro, hdict⟩ : ∃ cd, PySem.W.clsIn X.K C = some cd ∧ cd.mro = .ref C :: bm ∧ cd.hasDict = true := by
    refine ⟨{ name := nm, bases := bs, mro := .ref C :: bm, ns := N, qualname := q, hasDict := true, slotNames := sn, subclasses := sub, abstract := ab, collection := col }, ?_, rfl, rfl⟩
    unfold PySem.W.clsIn
    rw [hC] <;> rfl
  obtain ⟨hp, gs, dr, tc, os⟩ := s
  obtain ⟨oD, _, _, hoD, _, _⟩ := hns.count hw
  refine PySem.W.set_plain I.kIn (od := some oD) (ox := { cls := .ref C, dict := some dx, data := .fields #[.ref t1, .none, .none, .none, .bool false, .none] }) ⟨ho, rfl, rfl, hoD⟩ T.sa ?_
  refine osa_gold I.kIn ho hns hw (by rw [List.length_map]; omega) hcl hmro hb T.sets hdict hno fun h' tk' kp hn => ?_
  have hd : ∃ o, h'.get? dx = some o := by
    obtain ⟨o, _, _, e', _⟩ := hn
    exact ⟨o, e'⟩
  exact k _ (I.write (t' := tk') (x := dx) (e := dx) (o := exd dx ((f, y) :: fs)) (by rw [ed]; exact True.intro) (.inl rfl) kp hd (exd_ok hn (relO_put ry rel)))
def tOstG2 (K : PySem.W.Frag) (B newId initId : String) (bmB : List Value) (f : Str) (to te : TE) : TS := fun D σ H => te σ H fun y H1 => to σ H1 fun x H2 => ∃ (a C dx : Addr) (fs : List (Str × V)), x = .ref a ∧ OexG K B newId initId bmB C ∧ PySem.W.findIn K (.ref C) f = some none ∧
  H2 a = some (exo a C (some dx)) ∧ H2 dx = some (exd dx fs) ∧ fs.length ≤ 900 ∧ D.nx σ (upd H2 dx (exd dx ((f, y) :: fs)))
theorem ps_ostG2 {o e : Expr} {to te : TE} {p' pos : Pos} (ho : PE X o to) (he : PE X e te) (hs : swapsWith e (some (.Attribute o f p')) pos.line X.env = pure false := by rfl) : PS X (.Assign [.Attribute o f p'] e pos) (tOstG2 X.K B newId initId bmB f to te) := by
  refine ⟨fun pins s σ H D I h => plainObj_wpAny_Assign_Attribute (thn (he.run pins s σ H _ I h) fun v s1 ⟨y, H1, I1, r1, q1⟩ => ?_) hs⟩
  refine thn (ho.run pins s1 σ H1 _ I1 q1) fun u s2 ⟨x, H2, I2, r2, q2⟩ => ?_
  obtain ⟨a, C, dx, fs, rfl, T, hno, ea, ed, hl, q⟩ := q2
  obtain rfl : u = Value.ref a := r2
  exact ost_gold T I2 ea ed hl hno r1 fun s' J => ⟨σ, _, J, q⟩
end
/-- C(), an own error class without own __init__, as a value -/
theorem pe_exc0 {X : Cx} {B newId initId : String} {bmB : List Value} {C : Addr} {x : Str} {p pos : Pos} (T : OexG X.K B newId initId bmB C) (iC : PySem.W.findIn X.K (.ref C) "__init__" = some (some (.builtin initId))) (hg : Gl X x) (hm : X.mg x = some (.ref C))
    (hdb : (x == ("__debug__" : Str)) = false := by decide) :
    PE X (.Call (.Name x p) [] [] pos) (fun σ H Q => ∀ a, H a = none → Q (.ref a) (upd H a (exo a C none))) := by
  refine ⟨fun pins s σ H Q I h => ?_⟩
  refine wpAny_Call_Name_kw (ld_glob I hg hm ?_ hdb)
  refine PySem.W.callWith_K0 I.kIn T.kC ?_
  show wpAny _ _ (call (.ref C) []) _ _ _
  obtain ⟨nm, q, N, bs, bm, sn, sub, ab, col, dd, k0, k1, k2, k3, k5, hC, hbt⟩ := T.own
  obtain ⟨h0, gs, dr, tc, os⟩ := s
  have up1 : h0.objs.size ≤ h0.objs.size + 1 := Nat.le_succ _
  have more : ∀ b o, h0.get? b = some o → ((h0.push (PySem.W.kdv_tup [])).push (PySem.HandSPX.excO C h0.objs.size)).get? b = some o := fun b o z => Heap.get?_push_of_some _ (Heap.get?_push_of_some _ z)
  have made : ((h0.push (PySem.W.kdv_tup [])).push (PySem.HandSPX.excO C h0.objs.size)).get? (h0.objs.size + 1) = some (PySem.HandSPX.excO C h0.objs.size) := by heap_get
  refine wpAny_call (PySem.HandSPX.call_ownK T.base (fun Y => PySem.W.excTail_contains Y bm hbt) (I.kIn _ _ hC) (PySem.W.looks_findIn I.kIn iC) (fun self => PySem.W.Looks.of_pure (T.base.init.bind self)) (Nat.zero_le _) ?_)
  refine PySem.HandSPX.init_base T.base (fun Y => PySem.W.excTail_contains Y bm hbt) (more _ _ (I.kIn _ _ hC)) made (Nat.zero_le _) fun h' t1 kp hx => ?_
  refine ⟨rfl, ?_⟩
  have keep : ∀ b o, h0.get? b = some o → h'.get? b = some o := fun b o z => kp b o (Nat.ne_of_lt (Nat.lt_of_lt_of_le (Heap.lt_size z) up1)) (more b o z)
  have I2 : Inv X pins σ (upd H (h0.objs.size + 1) (exo (h0.objs.size + 1) C none)) ⟨h', gs, dr, tc, os⟩ := I.laid (t' := tc) (h' := h') keep up1 (exo_ok hx)
  exact ⟨V.ref (h0.objs.size + 1), _, I2, rfl, h _ (I.hok.fresh up1)⟩
theorem vals_reverse : ∀ {xs : List V} {us : List Value}, Vals xs us → Vals xs.reverse us.reverse
  | _, _, .nil => .nil
  | _, _, .cons r t => by
    rw [List.reverse_cons, List.reverse_cons]
    exact (vals_reverse t).snoc r
theorem PE.weak {X : Cx} {e : Expr} {t t' : TE} (h : PE X e t) (w : ∀ σ H Q, t' σ H Q → t σ H Q) : PE X e t' := ⟨fun pins s σ H Q I q => h.run pins s σ H Q I (w σ H Q q)⟩
end MH
namespace MH
open PySem PySem.Spec PyProof.Rows L2
def topS (i : Nat) : Stmt := PySem.Challenge.pw_menuhouses_k01_constants_and_errors.main.body.getD i (.Pass ⟨0, 0, 0, 0⟩)
abbrev st_InvalidTextD_initD : Stmt := inClass (topS 2) 0
abbrev names_InvalidTextD_initD : List Str := ["self", "given"]
theorem sc_InvalidTextD_initD : FnScope names_InvalidTextD_initD ["self", "given"] (defScope st_InvalidTextD_initD) := ⟨rfl, rfl, rfl, by decide +kernel, rfl, by decide +kernel, by decide +kernel⟩
abbrev st_InvalidMarksD_initD : Stmt := inClass (topS 3) 0
abbrev names_InvalidMarksD_initD : List Str := ["self", "given"]
theorem sc_InvalidMarksD_initD : FnScope names_InvalidMarksD_initD ["self", "given"] (defScope st_InvalidMarksD_initD) := ⟨rfl, rfl, rfl, by decide +kernel, rfl, by decide +kernel, by decide +kernel⟩
abbrev st_InvalidIndexD_initD : Stmt := inClass (topS 4) 0
abbrev names_InvalidIndexD_initD : List Str := ["self", "given"]
theorem sc_InvalidIndexD_initD : FnScope names_InvalidIndexD_initD ["self", "given"] (defScope st_InvalidIndexD_initD) := ⟨rfl, rfl, rfl, by decide +kernel, rfl, by decide +kernel, by decide +kernel⟩
abbrev st_InvalidWordD_initD : Stmt := inClass (topS 5) 0
abbrev names_InvalidWordD_initD : List Str := ["self", "given"]
theorem sc_InvalidWordD_initD : FnScope names_InvalidWordD_initD ["self", "given"] (defScope st_InvalidWordD_initD) := ⟨rfl, rfl, rfl, by decide +kernel, rfl, by decide +kernel, by decide +kernel⟩
abbrev st_NotARankingD_initD : Stmt := inClass (topS 6) 0
abbrev names_NotARankingD_initD : List Str := ["self", "given"]
theorem sc_NotARankingD_initD : FnScope names_NotARankingD_initD ["self", "given"] (defScope st_NotARankingD_initD) := ⟨rfl, rfl, rfl, by decide +kernel, rfl, by decide +kernel, by decide +kernel⟩
abbrev st_NotAHouseD_initD : Stmt := inClass (topS 7) 0
abbrev names_NotAHouseD_initD : List Str := ["self", "given"]
theorem sc_NotAHouseD_initD : FnScope names_NotAHouseD_initD ["self", "given"] (defScope st_NotAHouseD_initD) := ⟨rfl, rfl, rfl, by decide +kernel, rfl, by decide +kernel, by decide +kernel⟩
abbrev st_NotALookD_initD : Stmt := inClass (topS 8) 0
abbrev names_NotALookD_initD : List Str := ["self", "given"]
theorem sc_NotALookD_initD : FnScope names_NotALookD_initD ["self", "given"] (defScope st_NotALookD_initD) := ⟨rfl, rfl, rfl, by decide +kernel, rfl, by decide +kernel, by decide +kernel⟩
abbrev st_NotLooksD_initD : Stmt := inClass (topS 9) 0
abbrev names_NotLooksD_initD : List Str := ["self", "given"]
theorem sc_NotLooksD_initD : FnScope names_NotLooksD_initD ["self", "given"] (defScope st_NotLooksD_initD) := ⟨rfl, rfl, rfl, by decide +kernel, rfl, by decide +kernel, by decide +kernel⟩
abbrev st_OtherThingsD_initD : Stmt := inClass (topS 10) 0
abbrev names_OtherThingsD_initD : List Str := ["self", "given"]
theorem sc_OtherThingsD_initD : FnScope names_OtherThingsD_initD ["self", "given"] (defScope st_OtherThingsD_initD) := ⟨rfl, rfl, rfl, by decide +kernel, rfl, by decide +kernel, by decide +kernel⟩
abbrev st_UnknownThingD_initD : Stmt := inClass (topS 19) 0
abbrev names_UnknownThingD_initD : List Str := ["self", "given"]
theorem sc_UnknownThingD_initD : FnScope names_UnknownThingD_initD ["self", "given"] (defScope st_UnknownThingD_initD) := ⟨rfl, rfl, rfl, by decide +kernel, rfl, by decide +kernel, by decide +kernel⟩
abbrev st_InvalidRowD_initD : Stmt := inClass (topS 11) 0
abbrev names_InvalidRowD_initD : List Str := ["self", "index"]
theorem sc_InvalidRowD_initD : FnScope names_InvalidRowD_initD ["self", "index"] (defScope st_InvalidRowD_initD) := ⟨rfl, rfl, rfl, by decide +kernel, rfl, by decide +kernel, by decide +kernel⟩
abbrev st_InvalidMenuD_initD : Stmt := inClass (topS 12) 0
abbrev names_InvalidMenuD_initD : List Str := ["self", "index"]
theorem sc_InvalidMenuD_initD : FnScope names_InvalidMenuD_initD ["self", "index"] (defScope st_InvalidMenuD_initD) := ⟨rfl, rfl, rfl, by decide +kernel, rfl, by decide +kernel, by decide +kernel⟩
abbrev st_InvalidThingsD_initD : Stmt := inClass (topS 13) 0
abbrev names_InvalidThingsD_initD : List Str := ["self", "index"]
theorem sc_InvalidThingsD_initD : FnScope names_InvalidThingsD_initD ["self", "index"] (defScope st_InvalidThingsD_initD) := ⟨rfl, rfl, rfl, by decide +kernel, rfl, by decide +kernel, by decide +kernel⟩
abbrev st_InvalidTakenD_initD : Stmt := inClass (topS 14) 0
abbrev names_InvalidTakenD_initD : List Str := ["self", "index"]
theorem sc_InvalidTakenD_initD : FnScope names_InvalidTakenD_initD ["self", "index"] (defScope st_InvalidTakenD_initD) := ⟨rfl, rfl, rfl, by decide +kernel, rfl, by decide +kernel, by decide +kernel⟩
abbrev st_InvalidRankingsD_initD : Stmt := inClass (topS 15) 0
abbrev names_InvalidRankingsD_initD : List Str := ["self", "index"]
theorem sc_InvalidRankingsD_initD : FnScope names_InvalidRankingsD_initD ["self", "index"] (defScope st_InvalidRankingsD_initD) := ⟨rfl, rfl, rfl, by decide +kernel, rfl, by decide +kernel, by decide +kernel⟩
abbrev st_InvalidLooksD_initD : Stmt := inClass (topS 16) 0
abbrev names_InvalidLooksD_initD : List Str := ["self", "index"]
theorem sc_InvalidLooksD_initD : FnScope names_InvalidLooksD_initD ["self", "index"] (defScope st_InvalidLooksD_initD) := ⟨rfl, rfl, rfl, by decide +kernel, rfl, by decide +kernel, by decide +kernel⟩
abbrev st_InvalidTableD_initD : Stmt := inClass (topS 17) 0
abbrev names_InvalidTableD_initD : List Str := ["self", "index"]
theorem sc_InvalidTableD_initD : FnScope names_InvalidTableD_initD ["self", "index"] (defScope st_InvalidTableD_initD) := ⟨rfl, rfl, rfl, by decide +kernel, rfl, by decide +kernel, by decide +kernel⟩
abbrev st_ClashD_initD : Stmt := inClass (topS 24) 0
abbrev names_ClashD_initD : List Str := ["self", "index"]
theorem sc_ClashD_initD : FnScope names_ClashD_initD ["self", "index"] (defScope st_ClashD_initD) := ⟨rfl, rfl, rfl, by decide +kernel, rfl, by decide +kernel, by decide +kernel⟩
abbrev st_BrokenD_initD : Stmt := inClass (topS 25) 0
abbrev names_BrokenD_initD : List Str := ["self", "index"]
theorem sc_BrokenD_initD : FnScope names_BrokenD_initD ["self", "index"] (defScope st_BrokenD_initD) := ⟨rfl, rfl, rfl, by decide +kernel, rfl, by decide +kernel, by decide +kernel⟩
abbrev st_TooManyD_initD : Stmt := inClass (topS 21) 0
abbrev names_TooManyD_initD : List Str := ["self", "number"]
theorem sc_TooManyD_initD : FnScope names_TooManyD_initD ["self", "number"] (defScope st_TooManyD_initD) := ⟨rfl, rfl, rfl, by decide +kernel, rfl, by decide +kernel, by decide +kernel⟩
abbrev st_NoHouseD_initD : Stmt := inClass (topS 22) 0
abbrev names_NoHouseD_initD : List Str := ["self", "menu"]
theorem sc_NoHouseD_initD : FnScope names_NoHouseD_initD ["self", "menu"] (defScope st_NoHouseD_initD) := ⟨rfl, rfl, rfl, by decide +kernel, rfl, by decide +kernel, by decide +kernel⟩
abbrev st_NoTableD_initD : Stmt := inClass (topS 23) 0
abbrev names_NoTableD_initD : List Str := ["self", "first", "second"]
theorem sc_NoTableD_initD : FnScope names_NoTableD_initD ["self", "first", "second"] (defScope st_NoTableD_initD) := ⟨rfl, rfl, rfl, by decide +kernel, rfl, by decide +kernel, by decide +kernel⟩
abbrev st_l_purse : Stmt := topS 32
abbrev names_l_purse : List Str := ["_law_script", "_law_spot", "_law_cell", "_law_seed", "_law_one"]
theorem sc_l_purse : FnScope names_l_purse ["_law_script", "_law_spot"] (defScope st_l_purse) := ⟨rfl, rfl, rfl, by decide +kernel, rfl, by decide +kernel, by decide +kernel⟩
abbrev st_l_draw : Stmt := topS 33
abbrev names_l_draw : List Str := ["_law_purse_here", "_law_many", "_law_digit"]
theorem sc_l_draw : FnScope names_l_draw ["_law_purse_here", "_law_many"] (defScope st_l_draw) := ⟨rfl, rfl, rfl, by decide +kernel, rfl, by decide +kernel, by decide +kernel⟩
abbrev st_l_given : Stmt := topS 34
abbrev names_l_given : List Str := ["_law_one", "_law_found"]
theorem sc_l_given : FnScope names_l_given ["_law_one"] (defScope st_l_given) := ⟨rfl, rfl, rfl, by decide +kernel, rfl, by decide +kernel, by decide +kernel⟩
abbrev st_l_index : Stmt := topS 35
abbrev names_l_index : List Str := ["_law_one", "_law_found"]
theorem sc_l_index : FnScope names_l_index ["_law_one"] (defScope st_l_index) := ⟨rfl, rfl, rfl, by decide +kernel, rfl, by decide +kernel, by decide +kernel⟩
abbrev st_l_flags : Stmt := topS 36
abbrev names_l_flags : List Str := ["_law_e", "_law_found"]
theorem sc_l_flags : FnScope names_l_flags ["_law_e"] (defScope st_l_flags) := ⟨rfl, rfl, rfl, by decide +kernel, rfl, by decide +kernel, by decide +kernel⟩
abbrev st_l_bases : Stmt := topS 37
abbrev names_l_bases : List Str := ["_law_e", "_law_here", "_law_there"]
theorem sc_l_bases : FnScope names_l_bases ["_law_e"] (defScope st_l_bases) := ⟨rfl, rfl, rfl, by decide +kernel, rfl, by decide +kernel, by decide +kernel⟩
abbrev st_l_thing : Stmt := topS 38
abbrev names_l_thing : List Str := ["_law_purse_here", "_law_some"]
theorem sc_l_thing : FnScope names_l_thing ["_law_purse_here"] (defScope st_l_thing) := ⟨rfl, rfl, rfl, by decide +kernel, rfl, by decide +kernel, by decide +kernel⟩
abbrev st_l_right : Stmt := topS 39
abbrev names_l_right : List Str := ["_law_purse_here", "_law_one", "_law_two", "_law_pairs", "_law_pair", "_law_kept", "_law_last", "_law_e", "_law_k", "_law_low", "_law_flags_here"]
theorem sc_l_right : FnScope names_l_right ["_law_purse_here"] (defScope st_l_right) := ⟨rfl, rfl, rfl, by decide +kernel, rfl, by decide +kernel, by decide +kernel⟩
abbrev st_law : Stmt := topS 40
abbrev names_law : List Str := ["_law_script", "_law_spot"]
theorem sc_law : FnScope names_law ["_law_script"] (defScope st_law) := ⟨rfl, rfl, rfl, by decide +kernel, rfl, by decide +kernel, by decide +kernel⟩
structure Tx (K : PySem.W.Frag) (mg : Str → Option Value) where
  E_WrongValue : Addr
  g_WrongValue : mg "WrongValue" = some (.ref E_WrongValue)
  E_InvalidText : Addr
  g_InvalidText : mg "InvalidText" = some (.ref E_InvalidText)
  E_InvalidMarks : Addr
  g_InvalidMarks : mg "InvalidMarks" = some (.ref E_InvalidMarks)
  E_InvalidIndex : Addr
  g_InvalidIndex : mg "InvalidIndex" = some (.ref E_InvalidIndex)
  E_InvalidWord : Addr
  g_InvalidWord : mg "InvalidWord" = some (.ref E_InvalidWord)
  E_NotARanking : Addr
  g_NotARanking : mg "NotARanking" = some (.ref E_NotARanking)
  E_NotAHouse : Addr
  g_NotAHouse : mg "NotAHouse" = some (.ref E_NotAHouse)
  E_NotALook : Addr
  g_NotALook : mg "NotALook" = some (.ref E_NotALook)
  E_NotLooks : Addr
  g_NotLooks : mg "NotLooks" = some (.ref E_NotLooks)
  E_OtherThings : Addr
  g_OtherThings : mg "OtherThings" = some (.ref E_OtherThings)
  E_InvalidRow : Addr
  g_InvalidRow : mg "InvalidRow" = some (.ref E_InvalidRow)
  E_InvalidMenu : Addr
  g_InvalidMenu : mg "InvalidMenu" = some (.ref E_InvalidMenu)
  E_InvalidThings : Addr
  g_InvalidThings : mg "InvalidThings" = some (.ref E_InvalidThings)
  E_InvalidTaken : Addr
  g_InvalidTaken : mg "InvalidTaken" = some (.ref E_InvalidTaken)
  E_InvalidRankings : Addr
  g_InvalidRankings : mg "InvalidRankings" = some (.ref E_InvalidRankings)
  E_InvalidLooks : Addr
  g_InvalidLooks : mg "InvalidLooks" = some (.ref E_InvalidLooks)
  E_InvalidTable : Addr
  g_InvalidTable : mg "InvalidTable" = some (.ref E_InvalidTable)
  E_WrongName : Addr
  g_WrongName : mg "WrongName" = some (.ref E_WrongName)
  E_UnknownThing : Addr
  g_UnknownThing : mg "UnknownThing" = some (.ref E_UnknownThing)
  E_NoAnswer : Addr
  g_NoAnswer : mg "NoAnswer" = some (.ref E_NoAnswer)
  E_TooMany : Addr
  g_TooMany : mg "TooMany" = some (.ref E_TooMany)
  E_NoHouse : Addr
  g_NoHouse : mg "NoHouse" = some (.ref E_NoHouse)
  E_NoTable : Addr
  g_NoTable : mg "NoTable" = some (.ref E_NoTable)
  E_Clash : Addr
  g_Clash : mg "Clash" = some (.ref E_Clash)
  E_Broken : Addr
  g_Broken : mg "Broken" = some (.ref E_Broken)
  E_NothingToUndo : Addr
  g_NothingToUndo : mg "NothingToUndo" = some (.ref E_NothingToUndo)
  ox_InvalidText : OexG K "ValueError" "ValueError.__new__" "ValueError.__init__" [Value.type "ValueError", Value.type "Exception", Value.type "BaseException", Value.type "object"] E_InvalidText
  ek_InvalidText : ExcK K E_InvalidText
  no_InvalidText_given : PySem.W.findIn K (.ref E_InvalidText) "given" = some none
  ox_InvalidMarks : OexG K "ValueError" "ValueError.__new__" "ValueError.__init__" [Value.type "ValueError", Value.type "Exception", Value.type "BaseException", Value.type "object"] E_InvalidMarks
  ek_InvalidMarks : ExcK K E_InvalidMarks
  no_InvalidMarks_given : PySem.W.findIn K (.ref E_InvalidMarks) "given" = some none
  ox_InvalidIndex : OexG K "ValueError" "ValueError.__new__" "ValueError.__init__" [Value.type "ValueError", Value.type "Exception", Value.type "BaseException", Value.type "object"] E_InvalidIndex
  ek_InvalidIndex : ExcK K E_InvalidIndex
  no_InvalidIndex_given : PySem.W.findIn K (.ref E_InvalidIndex) "given" = some none
  ox_InvalidWord : OexG K "ValueError" "ValueError.__new__" "ValueError.__init__" [Value.type "ValueError", Value.type "Exception", Value.type "BaseException", Value.type "object"] E_InvalidWord
  ek_InvalidWord : ExcK K E_InvalidWord
  no_InvalidWord_given : PySem.W.findIn K (.ref E_InvalidWord) "given" = some none
  ox_NotARanking : OexG K "ValueError" "ValueError.__new__" "ValueError.__init__" [Value.type "ValueError", Value.type "Exception", Value.type "BaseException", Value.type "object"] E_NotARanking
  ek_NotARanking : ExcK K E_NotARanking
  no_NotARanking_given : PySem.W.findIn K (.ref E_NotARanking) "given" = some none
  ox_NotAHouse : OexG K "ValueError" "ValueError.__new__" "ValueError.__init__" [Value.type "ValueError", Value.type "Exception", Value.type "BaseException", Value.type "object"] E_NotAHouse
  ek_NotAHouse : ExcK K E_NotAHouse
  no_NotAHouse_given : PySem.W.findIn K (.ref E_NotAHouse) "given" = some none
  ox_NotALook : OexG K "ValueError" "ValueError.__new__" "ValueError.__init__" [Value.type "ValueError", Value.type "Exception", Value.type "BaseException", Value.type "object"] E_NotALook
  ek_NotALook : ExcK K E_NotALook
  no_NotALook_given : PySem.W.findIn K (.ref E_NotALook) "given" = some none
  ox_NotLooks : OexG K "ValueError" "ValueError.__new__" "ValueError.__init__" [Value.type "ValueError", Value.type "Exception", Value.type "BaseException", Value.type "object"] E_NotLooks
  ek_NotLooks : ExcK K E_NotLooks
  no_NotLooks_given : PySem.W.findIn K (.ref E_NotLooks) "given" = some none
  ox_OtherThings : OexG K "ValueError" "ValueError.__new__" "ValueError.__init__" [Value.type "ValueError", Value.type "Exception", Value.type "BaseException", Value.type "object"] E_OtherThings
  ek_OtherThings : ExcK K E_OtherThings
  no_OtherThings_given : PySem.W.findIn K (.ref E_OtherThings) "given" = some none
  ox_UnknownThing : OexG K "LookupError" "LookupError.__new__" "LookupError.__init__" [Value.type "LookupError", Value.type "Exception", Value.type "BaseException", Value.type "object"] E_UnknownThing
  ek_UnknownThing : ExcK K E_UnknownThing
  no_UnknownThing_given : PySem.W.findIn K (.ref E_UnknownThing) "given" = some none
  ox_InvalidRow : OexG K "ValueError" "ValueError.__new__" "ValueError.__init__" [Value.type "ValueError", Value.type "Exception", Value.type "BaseException", Value.type "object"] E_InvalidRow
  ek_InvalidRow : ExcK K E_InvalidRow
  no_InvalidRow_index : PySem.W.findIn K (.ref E_InvalidRow) "index" = some none
  ox_InvalidMenu : OexG K "ValueError" "ValueError.__new__" "ValueError.__init__" [Value.type "ValueError", Value.type "Exception", Value.type "BaseException", Value.type "object"] E_InvalidMenu
  ek_InvalidMenu : ExcK K E_InvalidMenu
  no_InvalidMenu_index : PySem.W.findIn K (.ref E_InvalidMenu) "index" = some none
  ox_InvalidThings : OexG K "ValueError" "ValueError.__new__" "ValueError.__init__" [Value.type "ValueError", Value.type "Exception", Value.type "BaseException", Value.type "object"] E_InvalidThings
  ek_InvalidThings : ExcK K E_InvalidThings
  no_InvalidThings_index : PySem.W.findIn K (.ref E_InvalidThings) "index" = some none
  ox_InvalidTaken : OexG K "ValueError" "ValueError.__new__" "ValueError.__init__" [Value.type "ValueError", Value.type "Exception", Value.type "BaseException", Value.type "object"] E_InvalidTaken
  ek_InvalidTaken : ExcK K E_InvalidTaken
  no_InvalidTaken_index : PySem.W.findIn K (.ref E_InvalidTaken) "index" = some none
  ox_InvalidRankings : OexG K "ValueError" "ValueError.__new__" "ValueError.__init__" [Value.type "ValueError", Value.type "Exception", Value.type "BaseException", Value.type "object"] E_InvalidRankings
  ek_InvalidRankings : ExcK K E_InvalidRankings
  no_InvalidRankings_index : PySem.W.findIn K (.ref E_InvalidRankings) "index" = some none
  ox_InvalidLooks : OexG K "ValueError" "ValueError.__new__" "ValueError.__init__" [Value.type "ValueError", Value.type "Exception", Value.type "BaseException", Value.type "object"] E_InvalidLooks
  ek_InvalidLooks : ExcK K E_InvalidLooks
  no_InvalidLooks_index : PySem.W.findIn K (.ref E_InvalidLooks) "index" = some none
  ox_InvalidTable : OexG K "ValueError" "ValueError.__new__" "ValueError.__init__" [Value.type "ValueError", Value.type "Exception", Value.type "BaseException", Value.type "object"] E_InvalidTable
  ek_InvalidTable : ExcK K E_InvalidTable
  no_InvalidTable_index : PySem.W.findIn K (.ref E_InvalidTable) "index" = some none
  ox_Clash : OexG K "ArithmeticError" "ArithmeticError.__new__" "ArithmeticError.__init__" [Value.type "ArithmeticError", Value.type "Exception", Value.type "BaseException", Value.type "object"] E_Clash
  ek_Clash : ExcK K E_Clash
  no_Clash_index : PySem.W.findIn K (.ref E_Clash) "index" = some none
  ox_Broken : OexG K "ArithmeticError" "ArithmeticError.__new__" "ArithmeticError.__init__" [Value.type "ArithmeticError", Value.type "Exception", Value.type "BaseException", Value.type "object"] E_Broken
  ek_Broken : ExcK K E_Broken
  no_Broken_index : PySem.W.findIn K (.ref E_Broken) "index" = some none
  ox_TooMany : OexG K "ArithmeticError" "ArithmeticError.__new__" "ArithmeticError.__init__" [Value.type "ArithmeticError", Value.type "Exception", Value.type "BaseException", Value.type "object"] E_TooMany
  ek_TooMany : ExcK K E_TooMany
  no_TooMany_number : PySem.W.findIn K (.ref E_TooMany) "number" = some none
  ox_NoHouse : OexG K "ArithmeticError" "ArithmeticError.__new__" "ArithmeticError.__init__" [Value.type "ArithmeticError", Value.type "Exception", Value.type "BaseException", Value.type "object"] E_NoHouse
  ek_NoHouse : ExcK K E_NoHouse
  no_NoHouse_menu : PySem.W.findIn K (.ref E_NoHouse) "menu" = some none
  ox_NoTable : OexG K "ArithmeticError" "ArithmeticError.__new__" "ArithmeticError.__init__" [Value.type "ArithmeticError", Value.type "Exception", Value.type "BaseException", Value.type "object"] E_NoTable
  ek_NoTable : ExcK K E_NoTable
  no_NoTable_first : PySem.W.findIn K (.ref E_NoTable) "first" = some none
  no_NoTable_second : PySem.W.findIn K (.ref E_NoTable) "second" = some none
  ox_NothingToUndo : OexG K "ArithmeticError" "ArithmeticError.__new__" "ArithmeticError.__init__" [Value.type "ArithmeticError", Value.type "Exception", Value.type "BaseException", Value.type "object"] E_NothingToUndo
  ek_NothingToUndo : ExcK K E_NothingToUndo
  xi_NothingToUndo : PySem.W.findIn K (.ref E_NothingToUndo) "__init__" = some (some (.builtin "ArithmeticError.__init__"))
  kt_InvalidText : ([.ref E_InvalidText, .ref E_InvalidMarks, .ref E_InvalidIndex, .ref E_InvalidWord, .ref E_NotARanking, .ref E_NotAHouse, .ref E_NotALook, .ref E_NotLooks, .ref E_OtherThings, .ref E_UnknownThing, .ref E_InvalidRow, .ref E_InvalidMenu, .ref E_InvalidThings, .ref E_InvalidTaken, .ref E_InvalidRankings, .ref E_InvalidLooks, .ref E_InvalidTable, .ref E_Clash, .ref E_Broken, .ref E_TooMany, .ref E_NoHouse, .ref E_NoTable, .ref E_NothingToUndo, .ref E_WrongValue, .ref E_WrongName, .ref E_NoAnswer, .type "ValueError", .type "LookupError", .type "ArithmeticError"] : List Value).map (PySem.W.kitOne K (.ref E_InvalidText)) = [some true, some false, some false, some false, some false, some false, some false, some false, some false, some false, some false, some false, some false, some false, some false, some false, some false, some false, some false, some false, some false, some false, some false, some true, some false, some false, some true, some false, some false]
  kt_InvalidMarks : ([.ref E_InvalidText, .ref E_InvalidMarks, .ref E_InvalidIndex, .ref E_InvalidWord, .ref E_NotARanking, .ref E_NotAHouse, .ref E_NotALook, .ref E_NotLooks, .ref E_OtherThings, .ref E_UnknownThing, .ref E_InvalidRow, .ref E_InvalidMenu, .ref E_InvalidThings, .ref E_InvalidTaken, .ref E_InvalidRankings, .ref E_InvalidLooks, .ref E_InvalidTable, .ref E_Clash, .ref E_Broken, .ref E_TooMany, .ref E_NoHouse, .ref E_NoTable, .ref E_NothingToUndo, .ref E_WrongValue, .ref E_WrongName, .ref E_NoAnswer, .type "ValueError", .type "LookupError", .type "ArithmeticError"] : List Value).map (PySem.W.kitOne K (.ref E_InvalidMarks)) = [some false, some true, some false, some false, some false, some false, some false, some false, some false, some false, some false, some false, some false, some false, some false, some false, some false, some false, some false, some false, some false, some false, some false, some true, some false, some false, some true, some false, some false]
  kt_InvalidIndex : ([.ref E_InvalidText, .ref E_InvalidMarks, .ref E_InvalidIndex, .ref E_InvalidWord, .ref E_NotARanking, .ref E_NotAHouse, .ref E_NotALook, .ref E_NotLooks, .ref E_OtherThings, .ref E_UnknownThing, .ref E_InvalidRow, .ref E_InvalidMenu, .ref E_InvalidThings, .ref E_InvalidTaken, .ref E_InvalidRankings, .ref E_InvalidLooks, .ref E_InvalidTable, .ref E_Clash, .ref E_Broken, .ref E_TooMany, .ref E_NoHouse, .ref E_NoTable, .ref E_NothingToUndo, .ref E_WrongValue, .ref E_WrongName, .ref E_NoAnswer, .type "ValueError", .type "LookupError", .type "ArithmeticError"] : List Value).map (PySem.W.kitOne K (.ref E_InvalidIndex)) = [some false, some false, some true, some false, some false, some false, some false, some false, some false, some false, some false, some false, some false, some false, some false, some false, some false, some false, some false, some false, some false, some false, some false, some true, some false, some false, some true, some false, some false]
  kt_InvalidWord : ([.ref E_InvalidText, .ref E_InvalidMarks, .ref E_InvalidIndex, .ref E_InvalidWord, .ref E_NotARanking, .ref E_NotAHouse, .ref E_NotALook, .ref E_NotLooks, .ref E_OtherThings, .ref E_UnknownThing, .ref E_InvalidRow, .ref E_InvalidMenu, .ref E_InvalidThings, .ref E_InvalidTaken, .ref E_InvalidRankings, .ref E_InvalidLooks, .ref E_InvalidTable, .ref E_Clash, .ref E_Broken, .ref E_TooMany, .ref E_NoHouse, .ref E_NoTable, .ref E_NothingToUndo, .ref E_WrongValue, .ref E_WrongName, .ref E_NoAnswer, .type "ValueError", .type "LookupError", .type "ArithmeticError"] : List Value).map (PySem.W.kitOne K (.ref E_InvalidWord)) = [some false, some false, some false, some true, some false, some false, some false, some false, some false, some false, some false, some false, some false, some false, some false, some false, some false, some false, some false, some false, some false, some false, some false, some true, some false, some false, some true, some false, some false]
  kt_NotARanking : ([.ref E_InvalidText, .ref E_InvalidMarks, .ref E_InvalidIndex, .ref E_InvalidWord, .ref E_NotARanking, .ref E_NotAHouse, .ref E_NotALook, .ref E_NotLooks, .ref E_OtherThings, .ref E_UnknownThing, .ref E_InvalidRow, .ref E_InvalidMenu, .ref E_InvalidThings, .ref E_InvalidTaken, .ref E_InvalidRankings, .ref E_InvalidLooks, .ref E_InvalidTable, .ref E_Clash, .ref E_Broken, .ref E_TooMany, .ref E_NoHouse, .ref E_NoTable, .ref E_NothingToUndo, .ref E_WrongValue, .ref E_WrongName, .ref E_NoAnswer, .type "ValueError", .type "LookupError", .type "ArithmeticError"] : List Value).map (PySem.W.kitOne K (.ref E_NotARanking)) = [some false, some false, some false, some false, some true, some false, some false, some false, some false, some false, some false, some false, some false, some false, some false, some false, some false, some false, some false, some false, some false, some false, some false, some true, some false, some false, some true, some false, some false]
  kt_NotAHouse : ([.ref E_InvalidText, .ref E_InvalidMarks, .ref E_InvalidIndex, .ref E_InvalidWord, .ref E_NotARanking, .ref E_NotAHouse, .ref E_NotALook, .ref E_NotLooks, .ref E_OtherThings, .ref E_UnknownThing, .ref E_InvalidRow, .ref E_InvalidMenu, .ref E_InvalidThings, .ref E_InvalidTaken, .ref E_InvalidRankings, .ref E_InvalidLooks, .ref E_InvalidTable, .ref E_Clash, .ref E_Broken, .ref E_TooMany, .ref E_NoHouse, .ref E_NoTable, .ref E_NothingToUndo, .ref E_WrongValue, .ref E_WrongName, .ref E_NoAnswer, .type "ValueError", .type "LookupError", .type "ArithmeticError"] : List Value).map (PySem.W.kitOne K (.ref E_NotAHouse)) = [some false, some false, some false, some false, some false, some true, some false, some false, some false, some false, some false, some false, some false, some false, some false, some false, some false, some false, some false, some false, some false, some false, some false, some true, some false, some false, some true, some false, some false]
  kt_NotALook : ([.ref E_InvalidText, .ref E_InvalidMarks, .ref E_InvalidIndex, .ref E_InvalidWord, .ref E_NotARanking, .ref E_NotAHouse, .ref E_NotALook, .ref E_NotLooks, .ref E_OtherThings, .ref E_UnknownThing, .ref E_InvalidRow, .ref E_InvalidMenu, .ref E_InvalidThings, .ref E_InvalidTaken, .ref E_InvalidRankings, .ref E_InvalidLooks, .ref E_InvalidTable, .ref E_Clash, .ref E_Broken, .ref E_TooMany, .ref E_NoHouse, .ref E_NoTable, .ref E_NothingToUndo, .ref E_WrongValue, .ref E_WrongName, .ref E_NoAnswer, .type "ValueError", .type "LookupError", .type "ArithmeticError"] : List Value).map (PySem.W.kitOne K (.ref E_NotALook)) = [some false, some false, some false, some false, some false, some false, some true, some false, some false, some false, some false, some false, some false, some false, some false, some false, some false, some false, some false, some false, some false, some false, some false, some true, some false, some false, some true, some false, some false]
  kt_NotLooks : ([.ref E_InvalidText, .ref E_InvalidMarks, .ref E_InvalidIndex, .ref E_InvalidWord, .ref E_NotARanking, .ref E_NotAHouse, .ref E_NotALook, .ref E_NotLooks, .ref E_OtherThings, .ref E_UnknownThing, .ref E_InvalidRow, .ref E_InvalidMenu, .ref E_InvalidThings, .ref E_InvalidTaken, .ref E_InvalidRankings, .ref E_InvalidLooks, .ref E_InvalidTable, .ref E_Clash, .ref E_Broken, .ref E_TooMany, .ref E_NoHouse, .ref E_NoTable, .ref E_NothingToUndo, .ref E_WrongValue, .ref E_WrongName, .ref E_NoAnswer, .type "ValueError", .type "LookupError", .type "ArithmeticError"] : List Value).map (PySem.W.kitOne K (.ref E_NotLooks)) = [some false, some false, some false, some false, some false, some false, some false, some true, some false, some false, some false, some false, some false, some false, some false, some false, some false, some false, some false, some false, some false, some false, some false, some true, some false, some false, some true, some false, some false]
  kt_OtherThings : ([.ref E_InvalidText, .ref E_InvalidMarks, .ref E_InvalidIndex, .ref E_InvalidWord, .ref E_NotARanking, .ref E_NotAHouse, .ref E_NotALook, .ref E_NotLooks, .ref E_OtherThings, .ref E_UnknownThing, .ref E_InvalidRow, .ref E_InvalidMenu, .ref E_InvalidThings, .ref E_InvalidTaken, .ref E_InvalidRankings, .ref E_InvalidLooks, .ref E_InvalidTable, .ref E_Clash, .ref E_Broken, .ref E_TooMany, .ref E_NoHouse, .ref E_NoTable, .ref E_NothingToUndo, .ref E_WrongValue, .ref E_WrongName, .ref E_NoAnswer, .type "ValueError", .type "LookupError", .type "ArithmeticError"] : List Value).map (PySem.W.kitOne K (.ref E_OtherThings)) = [some false, some false, some false, some false, some false, some false, some false, some false, some true, some false, some false, some false, some false, some false, some false, some false, some false, some false, some false, some false, some false, some false, some false, some true, some false, some false, some true, some false, some false]
  kt_UnknownThing : ([.ref E_InvalidText, .ref E_InvalidMarks, .ref E_InvalidIndex, .ref E_InvalidWord, .ref E_NotARanking, .ref E_NotAHouse, .ref E_NotALook, .ref E_NotLooks, .ref E_OtherThings, .ref E_UnknownThing, .ref E_InvalidRow, .ref E_InvalidMenu, .ref E_InvalidThings, .ref E_InvalidTaken, .ref E_InvalidRankings, .ref E_InvalidLooks, .ref E_InvalidTable, .ref E_Clash, .ref E_Broken, .ref E_TooMany, .ref E_NoHouse, .ref E_NoTable, .ref E_NothingToUndo, .ref E_WrongValue, .ref E_WrongName, .ref E_NoAnswer, .type "ValueError", .type "LookupError", .type "ArithmeticError"] : List Value).map (PySem.W.kitOne K (.ref E_UnknownThing)) = [some false, some false, some false, some false, some false, some false, some false, some false, some false, some true, some false, some false, some false, some false, some false, some false, some false, some false, some false, some false, some false, some false, some false, some false, some true, some false, some false, some true, some false]
  kt_InvalidRow : ([.ref E_InvalidText, .ref E_InvalidMarks, .ref E_InvalidIndex, .ref E_InvalidWord, .ref E_NotARanking, .ref E_NotAHouse, .ref E_NotALook, .ref E_NotLooks, .ref E_OtherThings, .ref E_UnknownThing, .ref E_InvalidRow, .ref E_InvalidMenu, .ref E_InvalidThings, .ref E_InvalidTaken, .ref E_InvalidRankings, .ref E_InvalidLooks, .ref E_InvalidTable, .ref E_Clash, .ref E_Broken, .ref E_TooMany, .ref E_NoHouse, .ref E_NoTable, .ref E_NothingToUndo, .ref E_WrongValue, .ref E_WrongName, .ref E_NoAnswer, .type "ValueError", .type "LookupError", .type "ArithmeticError"] : List Value).map (PySem.W.kitOne K (.ref E_InvalidRow)) = [some false, some false, some false, some false, some false, some false, some false, some false, some false, some false, some true, some false, some false, some false, some false, some false, some false, some false, some false, some false, some false, some false, some false, some true, some false, some false, some true, some false, some false]
  kt_InvalidMenu : ([.ref E_InvalidText, .ref E_InvalidMarks, .ref E_InvalidIndex, .ref E_InvalidWord, .ref E_NotARanking, .ref E_NotAHouse, .ref E_NotALook, .ref E_NotLooks, .ref E_OtherThings, .ref E_UnknownThing, .ref E_InvalidRow, .ref E_InvalidMenu, .ref E_InvalidThings, .ref E_InvalidTaken, .ref E_InvalidRankings, .ref E_InvalidLooks, .ref E_InvalidTable, .ref E_Clash, .ref E_Broken, .ref E_TooMany, .ref E_NoHouse, .ref E_NoTable, .ref E_NothingToUndo, .ref E_WrongValue, .ref E_WrongName, .ref E_NoAnswer, .type "ValueError", .type "LookupError", .type "ArithmeticError"] : List Value).map (PySem.W.kitOne K (.ref E_InvalidMenu)) = [some false, some false, some false, some false, some false, some false, some false, some false, some false, some false, some false, some true, some false, some false, some false, some false, some false, some false, some false, some false, some false, some false, some false, some true, some false, some false, some true, some false, some false]
  kt_InvalidThings : ([.ref E_InvalidText, .ref E_InvalidMarks, .ref E_InvalidIndex, .ref E_InvalidWord, .ref E_NotARanking, .ref E_NotAHouse, .ref E_NotALook, .ref E_NotLooks, .ref E_OtherThings, .ref E_UnknownThing, .ref E_InvalidRow, .ref E_InvalidMenu, .ref E_InvalidThings, .ref E_InvalidTaken, .ref E_InvalidRankings, .ref E_InvalidLooks, .ref E_InvalidTable, .ref E_Clash, .ref E_Broken, .ref E_TooMany, .ref E_NoHouse, .ref E_NoTable, .ref E_NothingToUndo, .ref E_WrongValue, .ref E_WrongName, .ref E_NoAnswer, .type "ValueError", .type "LookupError", .type "ArithmeticError"] : List Value).map (PySem.W.kitOne K (.ref E_InvalidThings)) = [some false, some false, some false, some false, some false, some false, some false, some false, some false, some false, some false, some false, some true, some false, some false, some false, some false, some false, some false, some false, some false, some false, some false, some true, some false, some false, some true, some false, some false]
  kt_InvalidTaken : ([.ref E_InvalidText, .ref E_InvalidMarks, .ref E_InvalidIndex, .ref E_InvalidWord, .ref E_NotARanking, .ref E_NotAHouse, .ref E_NotALook, .ref E_NotLooks, .ref E_OtherThings, .ref E_UnknownThing, .ref E_InvalidRow, .ref E_InvalidMenu, .ref E_InvalidThings, .ref E_InvalidTaken, .ref E_InvalidRankings, .ref E_InvalidLooks, .ref E_InvalidTable, .ref E_Clash, .ref E_Broken, .ref E_TooMany, .ref E_NoHouse, .ref E_NoTable, .ref E_NothingToUndo, .ref E_WrongValue, .ref E_WrongName, .ref E_NoAnswer, .type "ValueError", .type "LookupError", .type "ArithmeticError"] : List Value).map (PySem.W.kitOne K (.ref E_InvalidTaken)) = [some false, some false, some false, some false, some false, some false, some false, some false, some false, some false, some false, some false, some false, some true, some false, some false, some false, some false, some false, some false, some false, some false, some false, some true, some false, some false, some true, some false, some false]
  kt_InvalidRankings : ([.ref E_InvalidText, .ref E_InvalidMarks, .ref E_InvalidIndex, .ref E_InvalidWord, .ref E_NotARanking, .ref E_NotAHouse, .ref E_NotALook, .ref E_NotLooks, .ref E_OtherThings, .ref E_UnknownThing, .ref E_InvalidRow, .ref E_InvalidMenu, .ref E_InvalidThings, .ref E_InvalidTaken, .ref E_InvalidRankings, .ref E_InvalidLooks, .ref E_InvalidTable, .ref E_Clash, .ref E_Broken, .ref E_TooMany, .ref E_NoHouse, .ref E_NoTable, .ref E_NothingToUndo, .ref E_WrongValue, .ref E_WrongName, .ref E_NoAnswer, .type "ValueError", .type "LookupError", .type "ArithmeticError"] : List Value).map (PySem.W.kitOne K (.ref E_InvalidRankings)) = [some false, some false, some false, some false, some false, some false, some false, some false, some false, some false, some false, some false, some false, some false, some true, some false, some false, some false, some false, some false, some false, some false, some false, some true, some false, some false, some true, some false, some false]
  kt_InvalidLooks : ([.ref E_InvalidText, .ref E_InvalidMarks, .ref E_InvalidIndex, .ref E_InvalidWord, .ref E_NotARanking, .ref E_NotAHouse, .ref E_NotALook, .ref E_NotLooks, .ref E_OtherThings, .ref E_UnknownThing, .ref E_InvalidRow, .ref E_InvalidMenu, .ref E_InvalidThings, .ref E_InvalidTaken, .ref E_InvalidRankings, .ref E_InvalidLooks, .ref E_InvalidTable, .ref E_Clash, .ref E_Broken, .ref E_TooMany, .ref E_NoHouse, .ref E_NoTable, .ref E_NothingToUndo, .ref E_WrongValue, .ref E_WrongName, .ref E_NoAnswer, .type "ValueError", .type "LookupError", .type "ArithmeticError"] : List Value).map (PySem.W.kitOne K (.ref E_InvalidLooks)) = [some false, some false, some false, some false, some false, some false, some false, some false, some false, some false, some false, some false, some false, some false, some false, some true, some false, some false, some false, some false, some false, some false, some false, some true, some false, some false, some true, some false, some false]
  kt_InvalidTable : ([.ref E_InvalidText, .ref E_InvalidMarks, .ref E_InvalidIndex, .ref E_InvalidWord, .ref E_NotARanking, .ref E_NotAHouse, .ref E_NotALook, .ref E_NotLooks, .ref E_OtherThings, .ref E_UnknownThing, .ref E_InvalidRow, .ref E_InvalidMenu, .ref E_InvalidThings, .ref E_InvalidTaken, .ref E_InvalidRankings, .ref E_InvalidLooks, .ref E_InvalidTable, .ref E_Clash, .ref E_Broken, .ref E_TooMany, .ref E_NoHouse, .ref E_NoTable, .ref E_NothingToUndo, .ref E_WrongValue, .ref E_WrongName, .ref E_NoAnswer, .type "ValueError", .type "LookupError", .type "ArithmeticError"] : List Value).map (PySem.W.kitOne K (.ref E_InvalidTable)) = [some false, some false, some false, some false, some false, some false, some false, some false, some false, some false, some false, some false, some false, some false, some false, some false, some true, some false, some false, some false, some false, some false, some false, some true, some false, some false, some true, some false, some false]
  kt_Clash : ([.ref E_InvalidText, .ref E_InvalidMarks, .ref E_InvalidIndex, .ref E_InvalidWord, .ref E_NotARanking, .ref E_NotAHouse, .ref E_NotALook, .ref E_NotLooks, .ref E_OtherThings, .ref E_UnknownThing, .ref E_InvalidRow, .ref E_InvalidMenu, .ref E_InvalidThings, .ref E_InvalidTaken, .ref E_InvalidRankings, .ref E_InvalidLooks, .ref E_InvalidTable, .ref E_Clash, .ref E_Broken, .ref E_TooMany, .ref E_NoHouse, .ref E_NoTable, .ref E_NothingToUndo, .ref E_WrongValue, .ref E_WrongName, .ref E_NoAnswer, .type "ValueError", .type "LookupError", .type "ArithmeticError"] : List Value).map (PySem.W.kitOne K (.ref E_Clash)) = [some false, some false, some false, some false, some false, some false, some false, some false, some false, some false, some false, some false, some false, some false, some false, some false, some false, some true, some false, some false, some false, some false, some false, some false, some false, some true, some false, some false, some true]
  kt_Broken : ([.ref E_InvalidText, .ref E_InvalidMarks, .ref E_InvalidIndex, .ref E_InvalidWord, .ref E_NotARanking, .ref E_NotAHouse, .ref E_NotALook, .ref E_NotLooks, .ref E_OtherThings, .ref E_UnknownThing, .ref E_InvalidRow, .ref E_InvalidMenu, .ref E_InvalidThings, .ref E_InvalidTaken, .ref E_InvalidRankings, .ref E_InvalidLooks, .ref E_InvalidTable, .ref E_Clash, .ref E_Broken, .ref E_TooMany, .ref E_NoHouse, .ref E_NoTable, .ref E_NothingToUndo, .ref E_WrongValue, .ref E_WrongName, .ref E_NoAnswer, .type "ValueError", .type "LookupError", .type "ArithmeticError"] : List Value).map (PySem.W.kitOne K (.ref E_Broken)) = [some false, some false, some false, some false, some false, some false, some false, some false, some false, some false, some false, some false, some false, some false, some false, some false, some false, some false, some true, some false, some false, some false, some false, some false, some false, some true, some false, some false, some true]
  kt_TooMany : ([.ref E_InvalidText, .ref E_InvalidMarks, .ref E_InvalidIndex, .ref E_InvalidWord, .ref E_NotARanking, .ref E_NotAHouse, .ref E_NotALook, .ref E_NotLooks, .ref E_OtherThings, .ref E_UnknownThing, .ref E_InvalidRow, .ref E_InvalidMenu, .ref E_InvalidThings, .ref E_InvalidTaken, .ref E_InvalidRankings, .ref E_InvalidLooks, .ref E_InvalidTable, .ref E_Clash, .ref E_Broken, .ref E_TooMany, .ref E_NoHouse, .ref E_NoTable, .ref E_NothingToUndo, .ref E_WrongValue, .ref E_WrongName, .ref E_NoAnswer, .type "ValueError", .type "LookupError", .type "ArithmeticError"] : List Value).map (PySem.W.kitOne K (.ref E_TooMany)) = [some false, some false, some false, some false, some false, some false, some false, some false, some false, some false, some false, some false, some false, some false, some false, some false, some false, some false, some false, some true, some false, some false, some false, some false, some false, some true, some false, some false, some true]
  kt_NoHouse : ([.ref E_InvalidText, .ref E_InvalidMarks, .ref E_InvalidIndex, .ref E_InvalidWord, .ref E_NotARanking, .ref E_NotAHouse, .ref E_NotALook, .ref E_NotLooks, .ref E_OtherThings, .ref E_UnknownThing, .ref E_InvalidRow, .ref E_InvalidMenu, .ref E_InvalidThings, .ref E_InvalidTaken, .ref E_InvalidRankings, .ref E_InvalidLooks, .ref E_InvalidTable, .ref E_Clash, .ref E_Broken, .ref E_TooMany, .ref E_NoHouse, .ref E_NoTable, .ref E_NothingToUndo, .ref E_WrongValue, .ref E_WrongName, .ref E_NoAnswer, .type "ValueError", .type "LookupError", .type "ArithmeticError"] : List Value).map (PySem.W.kitOne K (.ref E_NoHouse)) = [some false, some false, some false, some false, some false, some false, some false, some false, some false, some false, some false, some false, some false, some false, some false, some false, some false, some false, some false, some false, some true, some false, some false, some false, some false, some true, some false, some false, some true]
  kt_NoTable : ([.ref E_InvalidText, .ref E_InvalidMarks, .ref E_InvalidIndex, .ref E_InvalidWord, .ref E_NotARanking, .ref E_NotAHouse, .ref E_NotALook, .ref E_NotLooks, .ref E_OtherThings, .ref E_UnknownThing, .ref E_InvalidRow, .ref E_InvalidMenu, .ref E_InvalidThings, .ref E_InvalidTaken, .ref E_InvalidRankings, .ref E_InvalidLooks, .ref E_InvalidTable, .ref E_Clash, .ref E_Broken, .ref E_TooMany, .ref E_NoHouse, .ref E_NoTable, .ref E_NothingToUndo, .ref E_WrongValue, .ref E_WrongName, .ref E_NoAnswer, .type "ValueError", .type "LookupError", .type "ArithmeticError"] : List Value).map (PySem.W.kitOne K (.ref E_NoTable)) = [some false, some false, some false, some false, some false, some false, some false, some false, some false, some false, some false, some false, some false, some false, some false, some false, some false, some false, some false, some false, some false, some true, some false, some false, some false, some true, some false, some false, some true]
  kt_NothingToUndo : ([.ref E_InvalidText, .ref E_InvalidMarks, .ref E_InvalidIndex, .ref E_InvalidWord, .ref E_NotARanking, .ref E_NotAHouse, .ref E_NotALook, .ref E_NotLooks, .ref E_OtherThings, .ref E_UnknownThing, .ref E_InvalidRow, .ref E_InvalidMenu, .ref E_InvalidThings, .ref E_InvalidTaken, .ref E_InvalidRankings, .ref E_InvalidLooks, .ref E_InvalidTable, .ref E_Clash, .ref E_Broken, .ref E_TooMany, .ref E_NoHouse, .ref E_NoTable, .ref E_NothingToUndo, .ref E_WrongValue, .ref E_WrongName, .ref E_NoAnswer, .type "ValueError", .type "LookupError", .type "ArithmeticError"] : List Value).map (PySem.W.kitOne K (.ref E_NothingToUndo)) = [some false, some false, some false, some false, some false, some false, some false, some false, some false, some false, some false, some false, some false, some false, some false, some false, some false, some false, some false, some false, some false, some false, some true, some false, some false, some true, some false, some false, some true]
  a_InvalidTextD_initD : Addr
  fd_InvalidTextD_initD : FuncData
  F_InvalidTextD_initD : Fun K "__init__" "InvalidText.__init__" st_InvalidTextD_initD a_InvalidTextD_initD fd_InvalidTextD_initD
  b_InvalidTextD_initD : Binds K fd_InvalidTextD_initD ["self", "given"] []
  ic_InvalidText : PySem.W.findIn K (.ref E_InvalidText) "__init__" = some (some (.ref a_InvalidTextD_initD))
  ti_InvalidText : PySem.W.typeIn K (.ref a_InvalidTextD_initD) = some (.type "function")
  kb_InvalidTextD_initD : KBn K fd_InvalidTextD_initD ["self", "given"] 1 ["given"] (fun us ws => us ++ ws) (fun vs zs => vs ++ zs)
  a_InvalidMarksD_initD : Addr
  fd_InvalidMarksD_initD : FuncData
  F_InvalidMarksD_initD : Fun K "__init__" "InvalidMarks.__init__" st_InvalidMarksD_initD a_InvalidMarksD_initD fd_InvalidMarksD_initD
  b_InvalidMarksD_initD : Binds K fd_InvalidMarksD_initD ["self", "given"] []
  ic_InvalidMarks : PySem.W.findIn K (.ref E_InvalidMarks) "__init__" = some (some (.ref a_InvalidMarksD_initD))
  ti_InvalidMarks : PySem.W.typeIn K (.ref a_InvalidMarksD_initD) = some (.type "function")
  kb_InvalidMarksD_initD : KBn K fd_InvalidMarksD_initD ["self", "given"] 1 ["given"] (fun us ws => us ++ ws) (fun vs zs => vs ++ zs)
  a_InvalidIndexD_initD : Addr
  fd_InvalidIndexD_initD : FuncData
  F_InvalidIndexD_initD : Fun K "__init__" "InvalidIndex.__init__" st_InvalidIndexD_initD a_InvalidIndexD_initD fd_InvalidIndexD_initD
  b_InvalidIndexD_initD : Binds K fd_InvalidIndexD_initD ["self", "given"] []
  ic_InvalidIndex : PySem.W.findIn K (.ref E_InvalidIndex) "__init__" = some (some (.ref a_InvalidIndexD_initD))
  ti_InvalidIndex : PySem.W.typeIn K (.ref a_InvalidIndexD_initD) = some (.type "function")
  kb_InvalidIndexD_initD : KBn K fd_InvalidIndexD_initD ["self", "given"] 1 ["given"] (fun us ws => us ++ ws) (fun vs zs => vs ++ zs)
  a_InvalidWordD_initD : Addr
  fd_InvalidWordD_initD : FuncData
  F_InvalidWordD_initD : Fun K "__init__" "InvalidWord.__init__" st_InvalidWordD_initD a_InvalidWordD_initD fd_InvalidWordD_initD
  b_InvalidWordD_initD : Binds K fd_InvalidWordD_initD ["self", "given"] []
  ic_InvalidWord : PySem.W.findIn K (.ref E_InvalidWord) "__init__" = some (some (.ref a_InvalidWordD_initD))
  ti_InvalidWord : PySem.W.typeIn K (.ref a_InvalidWordD_initD) = some (.type "function")
  kb_InvalidWordD_initD : KBn K fd_InvalidWordD_initD ["self", "given"] 1 ["given"] (fun us ws => us ++ ws) (fun vs zs => vs ++ zs)
  a_NotARankingD_initD : Addr
  fd_NotARankingD_initD : FuncData
  F_NotARankingD_initD : Fun K "__init__" "NotARanking.__init__" st_NotARankingD_initD a_NotARankingD_initD fd_NotARankingD_initD
  b_NotARankingD_initD : Binds K fd_NotARankingD_initD ["self", "given"] []
  ic_NotARanking : PySem.W.findIn K (.ref E_NotARanking) "__init__" = some (some (.ref a_NotARankingD_initD))
  ti_NotARanking : PySem.W.typeIn K (.ref a_NotARankingD_initD) = some (.type "function")
  kb_NotARankingD_initD : KBn K fd_NotARankingD_initD ["self", "given"] 1 ["given"] (fun us ws => us ++ ws) (fun vs zs => vs ++ zs)
  a_NotAHouseD_initD : Addr
  fd_NotAHouseD_initD : FuncData
  F_NotAHouseD_initD : Fun K "__init__" "NotAHouse.__init__" st_NotAHouseD_initD a_NotAHouseD_initD fd_NotAHouseD_initD
  b_NotAHouseD_initD : Binds K fd_NotAHouseD_initD ["self", "given"] []
  ic_NotAHouse : PySem.W.findIn K (.ref E_NotAHouse) "__init__" = some (some (.ref a_NotAHouseD_initD))
  ti_NotAHouse : PySem.W.typeIn K (.ref a_NotAHouseD_initD) = some (.type "function")
  kb_NotAHouseD_initD : KBn K fd_NotAHouseD_initD ["self", "given"] 1 ["given"] (fun us ws => us ++ ws) (fun vs zs => vs ++ zs)
  a_NotALookD_initD : Addr
  fd_NotALookD_initD : FuncData
  F_NotALookD_initD : Fun K "__init__" "NotALook.__init__" st_NotALookD_initD a_NotALookD_initD fd_NotALookD_initD
  b_NotALookD_initD : Binds K fd_NotALookD_initD ["self", "given"] []
  ic_NotALook : PySem.W.findIn K (.ref E_NotALook) "__init__" = some (some (.ref a_NotALookD_initD))
  ti_NotALook : PySem.W.typeIn K (.ref a_NotALookD_initD) = some (.type "function")
  kb_NotALookD_initD : KBn K fd_NotALookD_initD ["self", "given"] 1 ["given"] (fun us ws => us ++ ws) (fun vs zs => vs ++ zs)
  a_NotLooksD_initD : Addr
  fd_NotLooksD_initD : FuncData
  F_NotLooksD_initD : Fun K "__init__" "NotLooks.__init__" st_NotLooksD_initD a_NotLooksD_initD fd_NotLooksD_initD
  b_NotLooksD_initD : Binds K fd_NotLooksD_initD ["self", "given"] []
  ic_NotLooks : PySem.W.findIn K (.ref E_NotLooks) "__init__" = some (some (.ref a_NotLooksD_initD))
  ti_NotLooks : PySem.W.typeIn K (.ref a_NotLooksD_initD) = some (.type "function")
  kb_NotLooksD_initD : KBn K fd_NotLooksD_initD ["self", "given"] 1 ["given"] (fun us ws => us ++ ws) (fun vs zs => vs ++ zs)
  a_OtherThingsD_initD : Addr
  fd_OtherThingsD_initD : FuncData
  F_OtherThingsD_initD : Fun K "__init__" "OtherThings.__init__" st_OtherThingsD_initD a_OtherThingsD_initD fd_OtherThingsD_initD
  b_OtherThingsD_initD : Binds K fd_OtherThingsD_initD ["self", "given"] []
  ic_OtherThings : PySem.W.findIn K (.ref E_OtherThings) "__init__" = some (some (.ref a_OtherThingsD_initD))
  ti_OtherThings : PySem.W.typeIn K (.ref a_OtherThingsD_initD) = some (.type "function")
  kb_OtherThingsD_initD : KBn K fd_OtherThingsD_initD ["self", "given"] 1 ["given"] (fun us ws => us ++ ws) (fun vs zs => vs ++ zs)
  a_UnknownThingD_initD : Addr
  fd_UnknownThingD_initD : FuncData
  F_UnknownThingD_initD : Fun K "__init__" "UnknownThing.__init__" st_UnknownThingD_initD a_UnknownThingD_initD fd_UnknownThingD_initD
  b_UnknownThingD_initD : Binds K fd_UnknownThingD_initD ["self", "given"] []
  ic_UnknownThing : PySem.W.findIn K (.ref E_UnknownThing) "__init__" = some (some (.ref a_UnknownThingD_initD))
  ti_UnknownThing : PySem.W.typeIn K (.ref a_UnknownThingD_initD) = some (.type "function")
  kb_UnknownThingD_initD : KBn K fd_UnknownThingD_initD ["self", "given"] 1 ["given"] (fun us ws => us ++ ws) (fun vs zs => vs ++ zs)
  a_InvalidRowD_initD : Addr
  fd_InvalidRowD_initD : FuncData
  F_InvalidRowD_initD : Fun K "__init__" "InvalidRow.__init__" st_InvalidRowD_initD a_InvalidRowD_initD fd_InvalidRowD_initD
  b_InvalidRowD_initD : Binds K fd_InvalidRowD_initD ["self", "index"] []
  ic_InvalidRow : PySem.W.findIn K (.ref E_InvalidRow) "__init__" = some (some (.ref a_InvalidRowD_initD))
  ti_InvalidRow : PySem.W.typeIn K (.ref a_InvalidRowD_initD) = some (.type "function")
  kb_InvalidRowD_initD : KBn K fd_InvalidRowD_initD ["self", "index"] 1 ["index"] (fun us ws => us ++ ws) (fun vs zs => vs ++ zs)
  a_InvalidMenuD_initD : Addr
  fd_InvalidMenuD_initD : FuncData
  F_InvalidMenuD_initD : Fun K "__init__" "InvalidMenu.__init__" st_InvalidMenuD_initD a_InvalidMenuD_initD fd_InvalidMenuD_initD
  b_InvalidMenuD_initD : Binds K fd_InvalidMenuD_initD ["self", "index"] []
  ic_InvalidMenu : PySem.W.findIn K (.ref E_InvalidMenu) "__init__" = some (some (.ref a_InvalidMenuD_initD))
  ti_InvalidMenu : PySem.W.typeIn K (.ref a_InvalidMenuD_initD) = some (.type "function")
  kb_InvalidMenuD_initD : KBn K fd_InvalidMenuD_initD ["self", "index"] 1 ["index"] (fun us ws => us ++ ws) (fun vs zs => vs ++ zs)
  a_InvalidThingsD_initD : Addr
  fd_InvalidThingsD_initD : FuncData
  F_InvalidThingsD_initD : Fun K "__init__" "InvalidThings.__init__" st_InvalidThingsD_initD a_InvalidThingsD_initD fd_InvalidThingsD_initD
  b_InvalidThingsD_initD : Binds K fd_InvalidThingsD_initD ["self", "index"] []
  ic_InvalidThings : PySem.W.findIn K (.ref E_InvalidThings) "__init__" = some (some (.ref a_InvalidThingsD_initD))
  ti_InvalidThings : PySem.W.typeIn K (.ref a_InvalidThingsD_initD) = some (.type "function")
  kb_InvalidThingsD_initD : KBn K fd_InvalidThingsD_initD ["self", "index"] 1 ["index"] (fun us ws => us ++ ws) (fun vs zs => vs ++ zs)
  a_InvalidTakenD_initD : Addr
  fd_InvalidTakenD_initD : FuncData
  F_InvalidTakenD_initD : Fun K "__init__" "InvalidTaken.__init__" st_InvalidTakenD_initD a_InvalidTakenD_initD fd_InvalidTakenD_initD
  b_InvalidTakenD_initD : Binds K fd_InvalidTakenD_initD ["self", "index"] []
  ic_InvalidTaken : PySem.W.findIn K (.ref E_InvalidTaken) "__init__" = some (some (.ref a_InvalidTakenD_initD))
  ti_InvalidTaken : PySem.W.typeIn K (.ref a_InvalidTakenD_initD) = some (.type "function")
  kb_InvalidTakenD_initD : KBn K fd_InvalidTakenD_initD ["self", "index"] 1 ["index"] (fun us ws => us ++ ws) (fun vs zs => vs ++ zs)
  a_InvalidRankingsD_initD : Addr
  fd_InvalidRankingsD_initD : FuncData
  F_InvalidRankingsD_initD : Fun K "__init__" "InvalidRankings.__init__" st_InvalidRankingsD_initD a_InvalidRankingsD_initD fd_InvalidRankingsD_initD
  b_InvalidRankingsD_initD : Binds K fd_InvalidRankingsD_initD ["self", "index"] []
  ic_InvalidRankings : PySem.W.findIn K (.ref E_InvalidRankings) "__init__" = some (some (.ref a_InvalidRankingsD_initD))
  ti_InvalidRankings : PySem.W.typeIn K (.ref a_InvalidRankingsD_initD) = some (.type "function")
  kb_InvalidRankingsD_initD : KBn K fd_InvalidRankingsD_initD ["self", "index"] 1 ["index"] (fun us ws => us ++ ws) (fun vs zs => vs ++ zs)
  a_InvalidLooksD_initD : Addr
  fd_InvalidLooksD_initD : FuncData
  F_InvalidLooksD_initD : Fun K "__init__" "InvalidLooks.__init__" st_InvalidLooksD_initD a_InvalidLooksD_initD fd_InvalidLooksD_initD
  b_InvalidLooksD_initD : Binds K fd_InvalidLooksD_initD ["self", "index"] []
  ic_InvalidLooks : PySem.W.findIn K (.ref E_InvalidLooks) "__init__" = some (some (.ref a_InvalidLooksD_initD))
  ti_InvalidLooks : PySem.W.typeIn K (.ref a_InvalidLooksD_initD) = some (.type "function")
  kb_InvalidLooksD_initD : KBn K fd_InvalidLooksD_initD ["self", "index"] 1 ["index"] (fun us ws => us ++ ws) (fun vs zs => vs ++ zs)
  a_InvalidTableD_initD : Addr
  fd_InvalidTableD_initD : FuncData
  F_InvalidTableD_initD : Fun K "__init__" "InvalidTable.__init__" st_InvalidTableD_initD a_InvalidTableD_initD fd_InvalidTableD_initD
  b_InvalidTableD_initD : Binds K fd_InvalidTableD_initD ["self", "index"] []
  ic_InvalidTable : PySem.W.findIn K (.ref E_InvalidTable) "__init__" = some (some (.ref a_InvalidTableD_initD))
  ti_InvalidTable : PySem.W.typeIn K (.ref a_InvalidTableD_initD) = some (.type "function")
  kb_InvalidTableD_initD : KBn K fd_InvalidTableD_initD ["self", "index"] 1 ["index"] (fun us ws => us ++ ws) (fun vs zs => vs ++ zs)
  a_ClashD_initD : Addr
  fd_ClashD_initD : FuncData
  F_ClashD_initD : Fun K "__init__" "Clash.__init__" st_ClashD_initD a_ClashD_initD fd_ClashD_initD
  b_ClashD_initD : Binds K fd_ClashD_initD ["self", "index"] []
  ic_Clash : PySem.W.findIn K (.ref E_Clash) "__init__" = some (some (.ref a_ClashD_initD))
  ti_Clash : PySem.W.typeIn K (.ref a_ClashD_initD) = some (.type "function")
  kb_ClashD_initD : KBn K fd_ClashD_initD ["self", "index"] 1 ["index"] (fun us ws => us ++ ws) (fun vs zs => vs ++ zs)
  a_BrokenD_initD : Addr
  fd_BrokenD_initD : FuncData
  F_BrokenD_initD : Fun K "__init__" "Broken.__init__" st_BrokenD_initD a_BrokenD_initD fd_BrokenD_initD
  b_BrokenD_initD : Binds K fd_BrokenD_initD ["self", "index"] []
  ic_Broken : PySem.W.findIn K (.ref E_Broken) "__init__" = some (some (.ref a_BrokenD_initD))
  ti_Broken : PySem.W.typeIn K (.ref a_BrokenD_initD) = some (.type "function")
  kb_BrokenD_initD : KBn K fd_BrokenD_initD ["self", "index"] 1 ["index"] (fun us ws => us ++ ws) (fun vs zs => vs ++ zs)
  a_TooManyD_initD : Addr
  fd_TooManyD_initD : FuncData
  F_TooManyD_initD : Fun K "__init__" "TooMany.__init__" st_TooManyD_initD a_TooManyD_initD fd_TooManyD_initD
  b_TooManyD_initD : Binds K fd_TooManyD_initD ["self", "number"] []
  ic_TooMany : PySem.W.findIn K (.ref E_TooMany) "__init__" = some (some (.ref a_TooManyD_initD))
  ti_TooMany : PySem.W.typeIn K (.ref a_TooManyD_initD) = some (.type "function")
  kb_TooManyD_initD : KBn K fd_TooManyD_initD ["self", "number"] 1 ["number"] (fun us ws => us ++ ws) (fun vs zs => vs ++ zs)
  a_NoHouseD_initD : Addr
  fd_NoHouseD_initD : FuncData
  F_NoHouseD_initD : Fun K "__init__" "NoHouse.__init__" st_NoHouseD_initD a_NoHouseD_initD fd_NoHouseD_initD
  b_NoHouseD_initD : Binds K fd_NoHouseD_initD ["self", "menu"] []
  ic_NoHouse : PySem.W.findIn K (.ref E_NoHouse) "__init__" = some (some (.ref a_NoHouseD_initD))
  ti_NoHouse : PySem.W.typeIn K (.ref a_NoHouseD_initD) = some (.type "function")
  kb_NoHouseD_initD : KBn K fd_NoHouseD_initD ["self", "menu"] 1 ["menu"] (fun us ws => us ++ ws) (fun vs zs => vs ++ zs)
  a_NoTableD_initD : Addr
  fd_NoTableD_initD : FuncData
  F_NoTableD_initD : Fun K "__init__" "NoTable.__init__" st_NoTableD_initD a_NoTableD_initD fd_NoTableD_initD
  b_NoTableD_initD : Binds K fd_NoTableD_initD ["self", "first", "second"] []
  ic_NoTable : PySem.W.findIn K (.ref E_NoTable) "__init__" = some (some (.ref a_NoTableD_initD))
  ti_NoTable : PySem.W.typeIn K (.ref a_NoTableD_initD) = some (.type "function")
  kb_NoTableD_initD : KBn K fd_NoTableD_initD ["self", "first", "second"] 1 ["second", "first"] (fun us ws => us ++ ws.reverse) (fun vs zs => vs ++ zs.reverse)
  a_l_purse : Addr
  fd_l_purse : FuncData
  F_l_purse : Fun K "_law_purse" "_law_purse" st_l_purse a_l_purse fd_l_purse
  b_l_purse : Binds K fd_l_purse ["_law_script", "_law_spot"] []
  g_l_purse : mg "_law_purse" = some (.ref a_l_purse)
  a_l_draw : Addr
  fd_l_draw : FuncData
  F_l_draw : Fun K "_law_draw" "_law_draw" st_l_draw a_l_draw fd_l_draw
  b_l_draw : Binds K fd_l_draw ["_law_purse_here", "_law_many"] []
  g_l_draw : mg "_law_draw" = some (.ref a_l_draw)
  a_l_given : Addr
  fd_l_given : FuncData
  F_l_given : Fun K "_law_given" "_law_given" st_l_given a_l_given fd_l_given
  b_l_given : Binds K fd_l_given ["_law_one"] []
  g_l_given : mg "_law_given" = some (.ref a_l_given)
  a_l_index : Addr
  fd_l_index : FuncData
  F_l_index : Fun K "_law_index" "_law_index" st_l_index a_l_index fd_l_index
  b_l_index : Binds K fd_l_index ["_law_one"] []
  g_l_index : mg "_law_index" = some (.ref a_l_index)
  a_l_flags : Addr
  fd_l_flags : FuncData
  F_l_flags : Fun K "_law_flags" "_law_flags" st_l_flags a_l_flags fd_l_flags
  b_l_flags : Binds K fd_l_flags ["_law_e"] []
  g_l_flags : mg "_law_flags" = some (.ref a_l_flags)
  a_l_bases : Addr
  fd_l_bases : FuncData
  F_l_bases : Fun K "_law_bases" "_law_bases" st_l_bases a_l_bases fd_l_bases
  b_l_bases : Binds K fd_l_bases ["_law_e"] []
  g_l_bases : mg "_law_bases" = some (.ref a_l_bases)
  a_l_thing : Addr
  fd_l_thing : FuncData
  F_l_thing : Fun K "_law_thing" "_law_thing" st_l_thing a_l_thing fd_l_thing
  b_l_thing : Binds K fd_l_thing ["_law_purse_here"] []
  g_l_thing : mg "_law_thing" = some (.ref a_l_thing)
  a_l_right : Addr
  fd_l_right : FuncData
  F_l_right : Fun K "_law_right" "_law_right" st_l_right a_l_right fd_l_right
  b_l_right : Binds K fd_l_right ["_law_purse_here"] []
  g_l_right : mg "_law_right" = some (.ref a_l_right)
  a_law : Addr
  fd_law : FuncData
  F_law : Fun K "law" "law" st_law a_law fd_law
  b_law : Binds K fd_law ["_law_script"] []
  g_law : mg "law" = some (.ref a_law)
  g_MOST_THINGS : ∃ t : Tok, mg "MOST_THINGS" = some (.int 10 t)
  g_MOST_PEOPLE : ∃ t : Tok, mg "MOST_PEOPLE" = some (.int 24 t)
  g_MOST_LOOKS : ∃ t : Tok, mg "MOST_LOOKS" = some (.int 12 t)
  g_TABLE_THINGS : ∃ t : Tok, mg "TABLE_THINGS" = some (.int 5 t)
  n_len : mg "len" = none
  n_isinstance : mg "isinstance" = none
  n_all : mg "all" = none
  n_enumerate : mg "enumerate" = none
  n_abs : mg "abs" = none
  n_int : mg "int" = none
  n_divmod : mg "divmod" = none
  n_range : mg "range" = none
  n_repr : mg "repr" = none
  n_max : mg "max" = none
  n_min : mg "min" = none
  n_ValueError : mg "ValueError" = none
  n_LookupError : mg "LookupError" = none
  n_ArithmeticError : mg "ArithmeticError" = none
theorem tx_of {K : PySem.W.Frag} {h : Heap} {mg : Str → Option Value} {fa : Addr} (X : K.In h) (G : h.Ns mainGlobals mg) (hfa : mg "law" = some (.ref fa))
    {E_WrongValue : Addr}
    {E_InvalidText : Addr}
    {E_InvalidMarks : Addr}
    {E_InvalidIndex : Addr}
    {E_InvalidWord : Addr}
    {E_NotARanking : Addr}
    {E_NotAHouse : Addr}
    {E_NotALook : Addr}
    {E_NotLooks : Addr}
    {E_OtherThings : Addr}
    {E_InvalidRow : Addr}
    {E_InvalidMenu : Addr}
    {E_InvalidThings : Addr}
    {E_InvalidTaken : Addr}
    {E_InvalidRankings : Addr}
    {E_InvalidLooks : Addr}
    {E_InvalidTable : Addr}
    {E_WrongName : Addr}
    {E_UnknownThing : Addr}
    {E_NoAnswer : Addr}
    {E_TooMany : Addr}
    {E_NoHouse : Addr}
    {E_NoTable : Addr}
    {E_Clash : Addr}
    {E_Broken : Addr}
    {E_NothingToUndo : Addr}
    {N_InvalidText : Addr} {nm_InvalidText q_InvalidText : Str} {bs_InvalidText bm_InvalidText sub_InvalidText : List Value} {sn_InvalidText : List Str} {ab_InvalidText : Bool} {col_InvalidText : Option Bool} {dd_InvalidText : Option Addr} {k0_InvalidText k1_InvalidText k2_InvalidText k3_InvalidText k5_InvalidText : Option Value}
    {N_InvalidMarks : Addr} {nm_InvalidMarks q_InvalidMarks : Str} {bs_InvalidMarks bm_InvalidMarks sub_InvalidMarks : List Value} {sn_InvalidMarks : List Str} {ab_InvalidMarks : Bool} {col_InvalidMarks : Option Bool} {dd_InvalidMarks : Option Addr} {k0_InvalidMarks k1_InvalidMarks k2_InvalidMarks k3_InvalidMarks k5_InvalidMarks : Option Value}
    {N_InvalidIndex : Addr} {nm_InvalidIndex q_InvalidIndex : Str} {bs_InvalidIndex bm_InvalidIndex sub_InvalidIndex : List Value} {sn_InvalidIndex : List Str} {ab_InvalidIndex : Bool} {col_InvalidIndex : Option Bool} {dd_InvalidIndex : Option Addr} {k0_InvalidIndex k1_InvalidIndex k2_InvalidIndex k3_InvalidIndex k5_InvalidIndex : Option Value}
    {N_InvalidWord : Addr} {nm_InvalidWord q_InvalidWord : Str} {bs_InvalidWord bm_InvalidWord sub_InvalidWord : List Value} {sn_InvalidWord : List Str} {ab_InvalidWord : Bool} {col_InvalidWord : Option Bool} {dd_InvalidWord : Option Addr} {k0_InvalidWord k1_InvalidWord k2_InvalidWord k3_InvalidWord k5_InvalidWord : Option Value}
    {N_NotARanking : Addr} {nm_NotARanking q_NotARanking : Str} {bs_NotARanking bm_NotARanking sub_NotARanking : List Value} {sn_NotARanking : List Str} {ab_NotARanking : Bool} {col_NotARanking : Option Bool} {dd_NotARanking : Option Addr} {k0_NotARanking k1_NotARanking k2_NotARanking k3_NotARanking k5_NotARanking : Option Value}
    {N_NotAHouse : Addr} {nm_NotAHouse q_NotAHouse : Str} {bs_NotAHouse bm_NotAHouse sub_NotAHouse : List Value} {sn_NotAHouse : List Str} {ab_NotAHouse : Bool} {col_NotAHouse : Option Bool} {dd_NotAHouse : Option Addr} {k0_NotAHouse k1_NotAHouse k2_NotAHouse k3_NotAHouse k5_NotAHouse : Option Value}
    {N_NotALook : Addr} {nm_NotALook q_NotALook : Str} {bs_NotALook bm_NotALook sub_NotALook : List Value} {sn_NotALook : List Str} {ab_NotALook : Bool} {col_NotALook : Option Bool} {dd_NotALook : Option Addr} {k0_NotALook k1_NotALook k2_NotALook k3_NotALook k5_NotALook : Option Value}
    {N_NotLooks : Addr} {nm_NotLooks q_NotLooks : Str} {bs_NotLooks bm_NotLooks sub_NotLooks : List Value} {sn_NotLooks : List Str} {ab_NotLooks : Bool} {col_NotLooks : Option Bool} {dd_NotLooks : Option Addr} {k0_NotLooks k1_NotLooks k2_NotLooks k3_NotLooks k5_NotLooks : Option Value}
    {N_OtherThings : Addr} {nm_OtherThings q_OtherThings : Str} {bs_OtherThings bm_OtherThings sub_OtherThings : List Value} {sn_OtherThings : List Str} {ab_OtherThings : Bool} {col_OtherThings : Option Bool} {dd_OtherThings : Option Addr} {k0_OtherThings k1_OtherThings k2_OtherThings k3_OtherThings k5_OtherThings : Option Value}
    {N_UnknownThing : Addr} {nm_UnknownThing q_UnknownThing : Str} {bs_UnknownThing bm_UnknownThing sub_UnknownThing : List Value} {sn_UnknownThing : List Str} {ab_UnknownThing : Bool} {col_UnknownThing : Option Bool} {dd_UnknownThing : Option Addr} {k0_UnknownThing k1_UnknownThing k2_UnknownThing k3_UnknownThing k5_UnknownThing : Option Value}
    {N_InvalidRow : Addr} {nm_InvalidRow q_InvalidRow : Str} {bs_InvalidRow bm_InvalidRow sub_InvalidRow : List Value} {sn_InvalidRow : List Str} {ab_InvalidRow : Bool} {col_InvalidRow : Option Bool} {dd_InvalidRow : Option Addr} {k0_InvalidRow k1_InvalidRow k2_InvalidRow k3_InvalidRow k5_InvalidRow : Option Value}
    {N_InvalidMenu : Addr} {nm_InvalidMenu q_InvalidMenu : Str} {bs_InvalidMenu bm_InvalidMenu sub_InvalidMenu : List Value} {sn_InvalidMenu : List Str} {ab_InvalidMenu : Bool} {col_InvalidMenu : Option Bool} {dd_InvalidMenu : Option Addr} {k0_InvalidMenu k1_InvalidMenu k2_InvalidMenu k3_InvalidMenu k5_InvalidMenu : Option Value}
    {N_InvalidThings : Addr} {nm_InvalidThings q_InvalidThings : Str} {bs_InvalidThings bm_InvalidThings sub_InvalidThings : List Value} {sn_InvalidThings : List Str} {ab_InvalidThings : Bool} {col_InvalidThings : Option Bool} {dd_InvalidThings : Option Addr} {k0_InvalidThings k1_InvalidThings k2_InvalidThings k3_InvalidThings k5_InvalidThings : Option Value}
    {N_InvalidTaken : Addr} {nm_InvalidTaken q_InvalidTaken : Str} {bs_InvalidTaken bm_InvalidTaken sub_InvalidTaken : List Value} {sn_InvalidTaken : List Str} {ab_InvalidTaken : Bool} {col_InvalidTaken : Option Bool} {dd_InvalidTaken : Option Addr} {k0_InvalidTaken k1_InvalidTaken k2_InvalidTaken k3_InvalidTaken k5_InvalidTaken : Option Value}
    {N_InvalidRankings : Addr} {nm_InvalidRankings q_InvalidRankings : Str} {bs_InvalidRankings bm_InvalidRankings sub_InvalidRankings : List Value} {sn_InvalidRankings : List Str} {ab_InvalidRankings : Bool} {col_InvalidRankings : Option Bool} {dd_InvalidRankings : Option Addr} {k0_InvalidRankings k1_InvalidRankings k2_InvalidRankings k3_InvalidRankings k5_InvalidRankings : Option Value}
    {N_InvalidLooks : Addr} {nm_InvalidLooks q_InvalidLooks : Str} {bs_InvalidLooks bm_InvalidLooks sub_InvalidLooks : List Value} {sn_InvalidLooks : List Str} {ab_InvalidLooks : Bool} {col_InvalidLooks : Option Bool} {dd_InvalidLooks : Option Addr} {k0_InvalidLooks k1_InvalidLooks k2_InvalidLooks k3_InvalidLooks k5_InvalidLooks : Option Value}
    {N_InvalidTable : Addr} {nm_InvalidTable q_InvalidTable : Str} {bs_InvalidTable bm_InvalidTable sub_InvalidTable : List Value} {sn_InvalidTable : List Str} {ab_InvalidTable : Bool} {col_InvalidTable : Option Bool} {dd_InvalidTable : Option Addr} {k0_InvalidTable k1_InvalidTable k2_InvalidTable k3_InvalidTable k5_InvalidTable : Option Value}
    {N_Clash : Addr} {nm_Clash q_Clash : Str} {bs_Clash bm_Clash sub_Clash : List Value} {sn_Clash : List Str} {ab_Clash : Bool} {col_Clash : Option Bool} {dd_Clash : Option Addr} {k0_Clash k1_Clash k2_Clash k3_Clash k5_Clash : Option Value}
    {N_Broken : Addr} {nm_Broken q_Broken : Str} {bs_Broken bm_Broken sub_Broken : List Value} {sn_Broken : List Str} {ab_Broken : Bool} {col_Broken : Option Bool} {dd_Broken : Option Addr} {k0_Broken k1_Broken k2_Broken k3_Broken k5_Broken : Option Value}
    {N_TooMany : Addr} {nm_TooMany q_TooMany : Str} {bs_TooMany bm_TooMany sub_TooMany : List Value} {sn_TooMany : List Str} {ab_TooMany : Bool} {col_TooMany : Option Bool} {dd_TooMany : Option Addr} {k0_TooMany k1_TooMany k2_TooMany k3_TooMany k5_TooMany : Option Value}
    {N_NoHouse : Addr} {nm_NoHouse q_NoHouse : Str} {bs_NoHouse bm_NoHouse sub_NoHouse : List Value} {sn_NoHouse : List Str} {ab_NoHouse : Bool} {col_NoHouse : Option Bool} {dd_NoHouse : Option Addr} {k0_NoHouse k1_NoHouse k2_NoHouse k3_NoHouse k5_NoHouse : Option Value}
    {N_NoTable : Addr} {nm_NoTable q_NoTable : Str} {bs_NoTable bm_NoTable sub_NoTable : List Value} {sn_NoTable : List Str} {ab_NoTable : Bool} {col_NoTable : Option Bool} {dd_NoTable : Option Addr} {k0_NoTable k1_NoTable k2_NoTable k3_NoTable k5_NoTable : Option Value}
    {N_NothingToUndo : Addr} {nm_NothingToUndo q_NothingToUndo : Str} {bs_NothingToUndo bm_NothingToUndo sub_NothingToUndo : List Value} {sn_NothingToUndo : List Str} {ab_NothingToUndo : Bool} {col_NothingToUndo : Option Bool} {dd_NothingToUndo : Option Addr} {k0_NothingToUndo k1_NothingToUndo k2_NothingToUndo k3_NothingToUndo k5_NothingToUndo : Option Value}
    {f_InvalidTextD_initD : Addr} {od_InvalidTextD_initD an_InvalidTextD_initD : Option Addr} {sl_InvalidTextD_initD : Array (Option Value)} {oc_InvalidTextD_initD kV_InvalidTextD_initD dc_InvalidTextD_initD pm_InvalidTextD_initD cd_InvalidTextD_initD ct_InvalidTextD_initD : Value}
    {f_InvalidMarksD_initD : Addr} {od_InvalidMarksD_initD an_InvalidMarksD_initD : Option Addr} {sl_InvalidMarksD_initD : Array (Option Value)} {oc_InvalidMarksD_initD kV_InvalidMarksD_initD dc_InvalidMarksD_initD pm_InvalidMarksD_initD cd_InvalidMarksD_initD ct_InvalidMarksD_initD : Value}
    {f_InvalidIndexD_initD : Addr} {od_InvalidIndexD_initD an_InvalidIndexD_initD : Option Addr} {sl_InvalidIndexD_initD : Array (Option Value)} {oc_InvalidIndexD_initD kV_InvalidIndexD_initD dc_InvalidIndexD_initD pm_InvalidIndexD_initD cd_InvalidIndexD_initD ct_InvalidIndexD_initD : Value}
    {f_InvalidWordD_initD : Addr} {od_InvalidWordD_initD an_InvalidWordD_initD : Option Addr} {sl_InvalidWordD_initD : Array (Option Value)} {oc_InvalidWordD_initD kV_InvalidWordD_initD dc_InvalidWordD_initD pm_InvalidWordD_initD cd_InvalidWordD_initD ct_InvalidWordD_initD : Value}
    {f_NotARankingD_initD : Addr} {od_NotARankingD_initD an_NotARankingD_initD : Option Addr} {sl_NotARankingD_initD : Array (Option Value)} {oc_NotARankingD_initD kV_NotARankingD_initD dc_NotARankingD_initD pm_NotARankingD_initD cd_NotARankingD_initD ct_NotARankingD_initD : Value}
    {f_NotAHouseD_initD : Addr} {od_NotAHouseD_initD an_NotAHouseD_initD : Option Addr} {sl_NotAHouseD_initD : Array (Option Value)} {oc_NotAHouseD_initD kV_NotAHouseD_initD dc_NotAHouseD_initD pm_NotAHouseD_initD cd_NotAHouseD_initD ct_NotAHouseD_initD : Value}
    {f_NotALookD_initD : Addr} {od_NotALookD_initD an_NotALookD_initD : Option Addr} {sl_NotALookD_initD : Array (Option Value)} {oc_NotALookD_initD kV_NotALookD_initD dc_NotALookD_initD pm_NotALookD_initD cd_NotALookD_initD ct_NotALookD_initD : Value}
    {f_NotLooksD_initD : Addr} {od_NotLooksD_initD an_NotLooksD_initD : Option Addr} {sl_NotLooksD_initD : Array (Option Value)} {oc_NotLooksD_initD kV_NotLooksD_initD dc_NotLooksD_initD pm_NotLooksD_initD cd_NotLooksD_initD ct_NotLooksD_initD : Value}
    {f_OtherThingsD_initD : Addr} {od_OtherThingsD_initD an_OtherThingsD_initD : Option Addr} {sl_OtherThingsD_initD : Array (Option Value)} {oc_OtherThingsD_initD kV_OtherThingsD_initD dc_OtherThingsD_initD pm_OtherThingsD_initD cd_OtherThingsD_initD ct_OtherThingsD_initD : Value}
    {f_UnknownThingD_initD : Addr} {od_UnknownThingD_initD an_UnknownThingD_initD : Option Addr} {sl_UnknownThingD_initD : Array (Option Value)} {oc_UnknownThingD_initD kV_UnknownThingD_initD dc_UnknownThingD_initD pm_UnknownThingD_initD cd_UnknownThingD_initD ct_UnknownThingD_initD : Value}
    {f_InvalidRowD_initD : Addr} {od_InvalidRowD_initD an_InvalidRowD_initD : Option Addr} {sl_InvalidRowD_initD : Array (Option Value)} {oc_InvalidRowD_initD kV_InvalidRowD_initD dc_InvalidRowD_initD pm_InvalidRowD_initD cd_InvalidRowD_initD ct_InvalidRowD_initD : Value}
    {f_InvalidMenuD_initD : Addr} {od_InvalidMenuD_initD an_InvalidMenuD_initD : Option Addr} {sl_InvalidMenuD_initD : Array (Option Value)} {oc_InvalidMenuD_initD kV_InvalidMenuD_initD dc_InvalidMenuD_initD pm_InvalidMenuD_initD cd_InvalidMenuD_initD ct_InvalidMenuD_initD : Value}
    {f_InvalidThingsD_initD : Addr} {od_InvalidThingsD_initD an_InvalidThingsD_initD : Option Addr} {sl_InvalidThingsD_initD : Array (Option Value)} {oc_InvalidThingsD_initD kV_InvalidThingsD_initD dc_InvalidThingsD_initD pm_InvalidThingsD_initD cd_InvalidThingsD_initD ct_InvalidThingsD_initD : Value}
    {f_InvalidTakenD_initD : Addr} {od_InvalidTakenD_initD an_InvalidTakenD_initD : Option Addr} {sl_InvalidTakenD_initD : Array (Option Value)} {oc_InvalidTakenD_initD kV_InvalidTakenD_initD dc_InvalidTakenD_initD pm_InvalidTakenD_initD cd_InvalidTakenD_initD ct_InvalidTakenD_initD : Value}
    {f_InvalidRankingsD_initD : Addr} {od_InvalidRankingsD_initD an_InvalidRankingsD_initD : Option Addr} {sl_InvalidRankingsD_initD : Array (Option Value)} {oc_InvalidRankingsD_initD kV_InvalidRankingsD_initD dc_InvalidRankingsD_initD pm_InvalidRankingsD_initD cd_InvalidRankingsD_initD ct_InvalidRankingsD_initD : Value}
    {f_InvalidLooksD_initD : Addr} {od_InvalidLooksD_initD an_InvalidLooksD_initD : Option Addr} {sl_InvalidLooksD_initD : Array (Option Value)} {oc_InvalidLooksD_initD kV_InvalidLooksD_initD dc_InvalidLooksD_initD pm_InvalidLooksD_initD cd_InvalidLooksD_initD ct_InvalidLooksD_initD : Value}
    {f_InvalidTableD_initD : Addr} {od_InvalidTableD_initD an_InvalidTableD_initD : Option Addr} {sl_InvalidTableD_initD : Array (Option Value)} {oc_InvalidTableD_initD kV_InvalidTableD_initD dc_InvalidTableD_initD pm_InvalidTableD_initD cd_InvalidTableD_initD ct_InvalidTableD_initD : Value}
    {f_ClashD_initD : Addr} {od_ClashD_initD an_ClashD_initD : Option Addr} {sl_ClashD_initD : Array (Option Value)} {oc_ClashD_initD kV_ClashD_initD dc_ClashD_initD pm_ClashD_initD cd_ClashD_initD ct_ClashD_initD : Value}
    {f_BrokenD_initD : Addr} {od_BrokenD_initD an_BrokenD_initD : Option Addr} {sl_BrokenD_initD : Array (Option Value)} {oc_BrokenD_initD kV_BrokenD_initD dc_BrokenD_initD pm_BrokenD_initD cd_BrokenD_initD ct_BrokenD_initD : Value}
    {f_TooManyD_initD : Addr} {od_TooManyD_initD an_TooManyD_initD : Option Addr} {sl_TooManyD_initD : Array (Option Value)} {oc_TooManyD_initD kV_TooManyD_initD dc_TooManyD_initD pm_TooManyD_initD cd_TooManyD_initD ct_TooManyD_initD : Value}
    {f_NoHouseD_initD : Addr} {od_NoHouseD_initD an_NoHouseD_initD : Option Addr} {sl_NoHouseD_initD : Array (Option Value)} {oc_NoHouseD_initD kV_NoHouseD_initD dc_NoHouseD_initD pm_NoHouseD_initD cd_NoHouseD_initD ct_NoHouseD_initD : Value}
    {f_NoTableD_initD : Addr} {od_NoTableD_initD an_NoTableD_initD : Option Addr} {sl_NoTableD_initD : Array (Option Value)} {oc_NoTableD_initD kV_NoTableD_initD dc_NoTableD_initD pm_NoTableD_initD cd_NoTableD_initD ct_NoTableD_initD : Value}
    {f_l_purse : Addr} {od_l_purse an_l_purse : Option Addr} {sl_l_purse : Array (Option Value)} {oc_l_purse kV_l_purse dc_l_purse pm_l_purse cd_l_purse ct_l_purse : Value}
    {f_l_draw : Addr} {od_l_draw an_l_draw : Option Addr} {sl_l_draw : Array (Option Value)} {oc_l_draw kV_l_draw dc_l_draw pm_l_draw cd_l_draw ct_l_draw : Value}
    {f_l_given : Addr} {od_l_given an_l_given : Option Addr} {sl_l_given : Array (Option Value)} {oc_l_given kV_l_given dc_l_given pm_l_given cd_l_given ct_l_given : Value}
    {f_l_index : Addr} {od_l_index an_l_index : Option Addr} {sl_l_index : Array (Option Value)} {oc_l_index kV_l_index dc_l_index pm_l_index cd_l_index ct_l_index : Value}
    {f_l_flags : Addr} {od_l_flags an_l_flags : Option Addr} {sl_l_flags : Array (Option Value)} {oc_l_flags kV_l_flags dc_l_flags pm_l_flags cd_l_flags ct_l_flags : Value}
    {f_l_bases : Addr} {od_l_bases an_l_bases : Option Addr} {sl_l_bases : Array (Option Value)} {oc_l_bases kV_l_bases dc_l_bases pm_l_bases cd_l_bases ct_l_bases : Value}
    {f_l_thing : Addr} {od_l_thing an_l_thing : Option Addr} {sl_l_thing : Array (Option Value)} {oc_l_thing kV_l_thing dc_l_thing pm_l_thing cd_l_thing ct_l_thing : Value}
    {f_l_right : Addr} {od_l_right an_l_right : Option Addr} {sl_l_right : Array (Option Value)} {oc_l_right kV_l_right dc_l_right pm_l_right cd_l_right ct_l_right : Value}
    {f_law : Addr} {od_law an_law : Option Addr} {sl_law : Array (Option Value)} {oc_law kV_law dc_law pm_law cd_law ct_law : Value}
    {t_MOST_THINGS : Tok}
    {t_MOST_PEOPLE : Tok}
    {t_MOST_LOOKS : Tok}
    {t_TABLE_THINGS : Tok}
    (eg_WrongValue : PySem.W.nsIn K mainGlobals "WrongValue" = some (some (.ref E_WrongValue)))
    (eg_InvalidText : PySem.W.nsIn K mainGlobals "InvalidText" = some (some (.ref E_InvalidText)))
    (eg_InvalidMarks : PySem.W.nsIn K mainGlobals "InvalidMarks" = some (some (.ref E_InvalidMarks)))
    (eg_InvalidIndex : PySem.W.nsIn K mainGlobals "InvalidIndex" = some (some (.ref E_InvalidIndex)))
    (eg_InvalidWord : PySem.W.nsIn K mainGlobals "InvalidWord" = some (some (.ref E_InvalidWord)))
    (eg_NotARanking : PySem.W.nsIn K mainGlobals "NotARanking" = some (some (.ref E_NotARanking)))
    (eg_NotAHouse : PySem.W.nsIn K mainGlobals "NotAHouse" = some (some (.ref E_NotAHouse)))
    (eg_NotALook : PySem.W.nsIn K mainGlobals "NotALook" = some (some (.ref E_NotALook)))
    (eg_NotLooks : PySem.W.nsIn K mainGlobals "NotLooks" = some (some (.ref E_NotLooks)))
    (eg_OtherThings : PySem.W.nsIn K mainGlobals "OtherThings" = some (some (.ref E_OtherThings)))
    (eg_InvalidRow : PySem.W.nsIn K mainGlobals "InvalidRow" = some (some (.ref E_InvalidRow)))
    (eg_InvalidMenu : PySem.W.nsIn K mainGlobals "InvalidMenu" = some (some (.ref E_InvalidMenu)))
    (eg_InvalidThings : PySem.W.nsIn K mainGlobals "InvalidThings" = some (some (.ref E_InvalidThings)))
    (eg_InvalidTaken : PySem.W.nsIn K mainGlobals "InvalidTaken" = some (some (.ref E_InvalidTaken)))
    (eg_InvalidRankings : PySem.W.nsIn K mainGlobals "InvalidRankings" = some (some (.ref E_InvalidRankings)))
    (eg_InvalidLooks : PySem.W.nsIn K mainGlobals "InvalidLooks" = some (some (.ref E_InvalidLooks)))
    (eg_InvalidTable : PySem.W.nsIn K mainGlobals "InvalidTable" = some (some (.ref E_InvalidTable)))
    (eg_WrongName : PySem.W.nsIn K mainGlobals "WrongName" = some (some (.ref E_WrongName)))
    (eg_UnknownThing : PySem.W.nsIn K mainGlobals "UnknownThing" = some (some (.ref E_UnknownThing)))
    (eg_NoAnswer : PySem.W.nsIn K mainGlobals "NoAnswer" = some (some (.ref E_NoAnswer)))
    (eg_TooMany : PySem.W.nsIn K mainGlobals "TooMany" = some (some (.ref E_TooMany)))
    (eg_NoHouse : PySem.W.nsIn K mainGlobals "NoHouse" = some (some (.ref E_NoHouse)))
    (eg_NoTable : PySem.W.nsIn K mainGlobals "NoTable" = some (some (.ref E_NoTable)))
    (eg_Clash : PySem.W.nsIn K mainGlobals "Clash" = some (some (.ref E_Clash)))
    (eg_Broken : PySem.W.nsIn K mainGlobals "Broken" = some (some (.ref E_Broken)))
    (eg_NothingToUndo : PySem.W.nsIn K mainGlobals "NothingToUndo" = some (some (.ref E_NothingToUndo)))
    (xl_InvalidText : K.lookup E_InvalidText = some (excClassObj nm_InvalidText q_InvalidText E_InvalidText N_InvalidText bs_InvalidText bm_InvalidText true sn_InvalidText sub_InvalidText ab_InvalidText col_InvalidText dd_InvalidText k0_InvalidText k1_InvalidText k2_InvalidText k3_InvalidText k5_InvalidText "ValueError.__new__"))
    (xr_InvalidText : PySem.W.excTail [Value.type "ValueError", Value.type "Exception", Value.type "BaseException", Value.type "object"] bm_InvalidText = true)
    (xs_InvalidText : PySem.W.findIn K (.ref E_InvalidText) "__setattr__" = some (some (.builtin "object.__setattr__")))
    (xx_InvalidText : PySem.W.subIn K (.ref E_InvalidText) (.type "BaseException") = some true)
    (xt_InvalidText : PySem.W.typeIn K (.ref E_InvalidText) = some (.type "type"))
    (xk_InvalidText : PySem.W.keepIn K (.ref E_InvalidText) = true)
    (xn_InvalidText : PySem.W.findIn K (.ref E_InvalidText) "given" = some none)
    (xga_InvalidText : PySem.W.findIn K (.ref E_InvalidText) "__getattribute__" = some (some (.builtin "BaseException.__getattribute__")))
    (xgg_InvalidText : PySem.W.findIn K (.ref E_InvalidText) "__getattr__" = some none)
    (xhd_InvalidText : PySem.W.hasDictIn K E_InvalidText = true)
    (xcl_InvalidText : (PySem.W.clsIn K E_InvalidText).isSome = true)
    (xca_InvalidText : PySem.W.findIn K (.ref E_InvalidText) "__class__" = some (some (.builtin "object.__class__")))
    (xcb_InvalidText : PySem.W.specialIn K (.builtin "object.__class__") "__get__" = some (some (.builtin "getset_descriptor.__get__")))
    (xcc_InvalidText : PySem.W.takesIn K (.builtin "object.__class__") = some true)
    (xob_InvalidText : PySem.W.mroIn K E_InvalidText (.type "object") = some true)
    (xl_InvalidMarks : K.lookup E_InvalidMarks = some (excClassObj nm_InvalidMarks q_InvalidMarks E_InvalidMarks N_InvalidMarks bs_InvalidMarks bm_InvalidMarks true sn_InvalidMarks sub_InvalidMarks ab_InvalidMarks col_InvalidMarks dd_InvalidMarks k0_InvalidMarks k1_InvalidMarks k2_InvalidMarks k3_InvalidMarks k5_InvalidMarks "ValueError.__new__"))
    (xr_InvalidMarks : PySem.W.excTail [Value.type "ValueError", Value.type "Exception", Value.type "BaseException", Value.type "object"] bm_InvalidMarks = true)
    (xs_InvalidMarks : PySem.W.findIn K (.ref E_InvalidMarks) "__setattr__" = some (some (.builtin "object.__setattr__")))
    (xx_InvalidMarks : PySem.W.subIn K (.ref E_InvalidMarks) (.type "BaseException") = some true)
    (xt_InvalidMarks : PySem.W.typeIn K (.ref E_InvalidMarks) = some (.type "type"))
    (xk_InvalidMarks : PySem.W.keepIn K (.ref E_InvalidMarks) = true)
    (xn_InvalidMarks : PySem.W.findIn K (.ref E_InvalidMarks) "given" = some none)
    (xga_InvalidMarks : PySem.W.findIn K (.ref E_InvalidMarks) "__getattribute__" = some (some (.builtin "BaseException.__getattribute__")))
    (xgg_InvalidMarks : PySem.W.findIn K (.ref E_InvalidMarks) "__getattr__" = some none)
    (xhd_InvalidMarks : PySem.W.hasDictIn K E_InvalidMarks = true)
    (xcl_InvalidMarks : (PySem.W.clsIn K E_InvalidMarks).isSome = true)
    (xca_InvalidMarks : PySem.W.findIn K (.ref E_InvalidMarks) "__class__" = some (some (.builtin "object.__class__")))
    (xcb_InvalidMarks : PySem.W.specialIn K (.builtin "object.__class__") "__get__" = some (some (.builtin "getset_descriptor.__get__")))
    (xcc_InvalidMarks : PySem.W.takesIn K (.builtin "object.__class__") = some true)
    (xob_InvalidMarks : PySem.W.mroIn K E_InvalidMarks (.type "object") = some true)
    (xl_InvalidIndex : K.lookup E_InvalidIndex = some (excClassObj nm_InvalidIndex q_InvalidIndex E_InvalidIndex N_InvalidIndex bs_InvalidIndex bm_InvalidIndex true sn_InvalidIndex sub_InvalidIndex ab_InvalidIndex col_InvalidIndex dd_InvalidIndex k0_InvalidIndex k1_InvalidIndex k2_InvalidIndex k3_InvalidIndex k5_InvalidIndex "ValueError.__new__"))
    (xr_InvalidIndex : PySem.W.excTail [Value.type "ValueError", Value.type "Exception", Value.type "BaseException", Value.type "object"] bm_InvalidIndex = true)
    (xs_InvalidIndex : PySem.W.findIn K (.ref E_InvalidIndex) "__setattr__" = some (some (.builtin "object.__setattr__")))
    (xx_InvalidIndex : PySem.W.subIn K (.ref E_InvalidIndex) (.type "BaseException") = some true)
    (xt_InvalidIndex : PySem.W.typeIn K (.ref E_InvalidIndex) = some (.type "type"))
    (xk_InvalidIndex : PySem.W.keepIn K (.ref E_InvalidIndex) = true)
    (xn_InvalidIndex : PySem.W.findIn K (.ref E_InvalidIndex) "given" = some none)
    (xga_InvalidIndex : PySem.W.findIn K (.ref E_InvalidIndex) "__getattribute__" = some (some (.builtin "BaseException.__getattribute__")))
    (xgg_InvalidIndex : PySem.W.findIn K (.ref E_InvalidIndex) "__getattr__" = some none)
    (xhd_InvalidIndex : PySem.W.hasDictIn K E_InvalidIndex = true)
    (xcl_InvalidIndex : (PySem.W.clsIn K E_InvalidIndex).isSome = true)
    (xca_InvalidIndex : PySem.W.findIn K (.ref E_InvalidIndex) "__class__" = some (some (.builtin "object.__class__")))
    (xcb_InvalidIndex : PySem.W.specialIn K (.builtin "object.__class__") "__get__" = some (some (.builtin "getset_descriptor.__get__")))
    (xcc_InvalidIndex : PySem.W.takesIn K (.builtin "object.__class__") = some true)
    (xob_InvalidIndex : PySem.W.mroIn K E_InvalidIndex (.type "object") = some true)
    (xl_InvalidWord : K.lookup E_InvalidWord = some (excClassObj nm_InvalidWord q_InvalidWord E_InvalidWord N_InvalidWord bs_InvalidWord bm_InvalidWord true sn_InvalidWord sub_InvalidWord ab_InvalidWord col_InvalidWord dd_InvalidWord k0_InvalidWord k1_InvalidWord k2_InvalidWord k3_InvalidWord k5_InvalidWord "ValueError.__new__"))
    (xr_InvalidWord : PySem.W.excTail [Value.type "ValueError", Value.type "Exception", Value.type "BaseException", Value.type "object"] bm_InvalidWord = true)
    (xs_InvalidWord : PySem.W.findIn K (.ref E_InvalidWord) "__setattr__" = some (some (.builtin "object.__setattr__")))
    (xx_InvalidWord : PySem.W.subIn K (.ref E_InvalidWord) (.type "BaseException") = some true)
    (xt_InvalidWord : PySem.W.typeIn K (.ref E_InvalidWord) = some (.type "type"))
    (xk_InvalidWord : PySem.W.keepIn K (.ref E_InvalidWord) = true)
    (xn_InvalidWord : PySem.W.findIn K (.ref E_InvalidWord) "given" = some none)
    (xga_InvalidWord : PySem.W.findIn K (.ref E_InvalidWord) "__getattribute__" = some (some (.builtin "BaseException.__getattribute__")))
    (xgg_InvalidWord : PySem.W.findIn K (.ref E_InvalidWord) "__getattr__" = some none)
    (xhd_InvalidWord : PySem.W.hasDictIn K E_InvalidWord = true)
    (xcl_InvalidWord : (PySem.W.clsIn K E_InvalidWord).isSome = true)
    (xca_InvalidWord : PySem.W.findIn K (.ref E_InvalidWord) "__class__" = some (some (.builtin "object.__class__")))
    (xcb_InvalidWord : PySem.W.specialIn K (.builtin "object.__class__") "__get__" = some (some (.builtin "getset_descriptor.__get__")))
    (xcc_InvalidWord : PySem.W.takesIn K (.builtin "object.__class__") = some true)
    (xob_InvalidWord : PySem.W.mroIn K E_InvalidWord (.type "object") = some true)
    (xl_NotARanking : K.lookup E_NotARanking = some (excClassObj nm_NotARanking q_NotARanking E_NotARanking N_NotARanking bs_NotARanking bm_NotARanking true sn_NotARanking sub_NotARanking ab_NotARanking col_NotARanking dd_NotARanking k0_NotARanking k1_NotARanking k2_NotARanking k3_NotARanking k5_NotARanking "ValueError.__new__"))
    (xr_NotARanking : PySem.W.excTail [Value.type "ValueError", Value.type "Exception", Value.type "BaseException", Value.type "object"] bm_NotARanking = true)
    (xs_NotARanking : PySem.W.findIn K (.ref E_NotARanking) "__setattr__" = some (some (.builtin "object.__setattr__")))
    (xx_NotARanking : PySem.W.subIn K (.ref E_NotARanking) (.type "BaseException") = some true)
    (xt_NotARanking : PySem.W.typeIn K (.ref E_NotARanking) = some (.type "type"))
    (xk_NotARanking : PySem.W.keepIn K (.ref E_NotARanking) = true)
    (xn_NotARanking : PySem.W.findIn K (.ref E_NotARanking) "given" = some none)
    (xga_NotARanking : PySem.W.findIn K (.ref E_NotARanking) "__getattribute__" = some (some (.builtin "BaseException.__getattribute__")))
    (xgg_NotARanking : PySem.W.findIn K (.ref E_NotARanking) "__getattr__" = some none)
    (xhd_NotARanking : PySem.W.hasDictIn K E_NotARanking = true)
    (xcl_NotARanking : (PySem.W.clsIn K E_NotARanking).isSome = true)
    (xca_NotARanking : PySem.W.findIn K (.ref E_NotARanking) "__class__" = some (some (.builtin "object.__class__")))
    (xcb_NotARanking : PySem.W.specialIn K (.builtin "object.__class__") "__get__" = some (some (.builtin "getset_descriptor.__get__")))
    (xcc_NotARanking : PySem.W.takesIn K (.builtin "object.__class__") = some true)
    (xob_NotARanking : PySem.W.mroIn K E_NotARanking (.type "object") = some true)
    (xl_NotAHouse : K.lookup E_NotAHouse = some (excClassObj nm_NotAHouse q_NotAHouse E_NotAHouse N_NotAHouse bs_NotAHouse bm_NotAHouse true sn_NotAHouse sub_NotAHouse ab_NotAHouse col_NotAHouse dd_NotAHouse k0_NotAHouse k1_NotAHouse k2_NotAHouse k3_NotAHouse k5_NotAHouse "ValueError.__new__"))
    (xr_NotAHouse : PySem.W.excTail [Value.type "ValueError", Value.type "Exception", Value.type "BaseException", Value.type "object"] bm_NotAHouse = true)
    (xs_NotAHouse : PySem.W.findIn K (.ref E_NotAHouse) "__setattr__" = some (some (.builtin "object.__setattr__")))
    (xx_NotAHouse : PySem.W.subIn K (.ref E_NotAHouse) (.type "BaseException") = some true)
    (xt_NotAHouse : PySem.W.typeIn K (.ref E_NotAHouse) = some (.type "type"))
    (xk_NotAHouse : PySem.W.keepIn K (.ref E_NotAHouse) = true)
    (xn_NotAHouse : PySem.W.findIn K (.ref E_NotAHouse) "given" = some none)
    (xga_NotAHouse : PySem.W.findIn K (.ref E_NotAHouse) "__getattribute__" = some (some (.builtin "BaseException.__getattribute__")))
    (xgg_NotAHouse : PySem.W.findIn K (.ref E_NotAHouse) "__getattr__" = some none)
    (xhd_NotAHouse : PySem.W.hasDictIn K E_NotAHouse = true)
    (xcl_NotAHouse : (PySem.W.clsIn K E_NotAHouse).isSome = true)
    (xca_NotAHouse : PySem.W.findIn K (.ref E_NotAHouse) "__class__" = some (some (.builtin "object.__class__")))
    (xcb_NotAHouse : PySem.W.specialIn K (.builtin "object.__class__") "__get__" = some (some (.builtin "getset_descriptor.__get__")))
    (xcc_NotAHouse : PySem.W.takesIn K (.builtin "object.__class__") = some true)
    (xob_NotAHouse : PySem.W.mroIn K E_NotAHouse (.type "object") = some true)
    (xl_NotALook : K.lookup E_NotALook = some (excClassObj nm_NotALook q_NotALook E_NotALook N_NotALook bs_NotALook bm_NotALook true sn_NotALook sub_NotALook ab_NotALook col_NotALook dd_NotALook k0_NotALook k1_NotALook k2_NotALook k3_NotALook k5_NotALook "ValueError.__new__"))
    (xr_NotALook : PySem.W.excTail [Value.type "ValueError", Value.type "Exception", Value.type "BaseException", Value.type "object"] bm_NotALook = true)
    (xs_NotALook : PySem.W.findIn K (.ref E_NotALook) "__setattr__" = some (some (.builtin "object.__setattr__")))
    (xx_NotALook : PySem.W.subIn K (.ref E_NotALook) (.type "BaseException") = some true)
    (xt_NotALook : PySem.W.typeIn K (.ref E_NotALook) = some (.type "type"))
    (xk_NotALook : PySem.W.keepIn K (.ref E_NotALook) = true)
    (xn_NotALook : PySem.W.findIn K (.ref E_NotALook) "given" = some none)
    (xga_NotALook : PySem.W.findIn K (.ref E_NotALook) "__getattribute__" = some (some (.builtin "BaseException.__getattribute__")))
    (xgg_NotALook : PySem.W.findIn K (.ref E_NotALook) "__getattr__" = some none)
    (xhd_NotALook : PySem.W.hasDictIn K E_NotALook = true)
    (xcl_NotALook : (PySem.W.clsIn K E_NotALook).isSome = true)
    (xca_NotALook : PySem.W.findIn K (.ref E_NotALook) "__class__" = some (some (.builtin "object.__class__")))
    (xcb_NotALook : PySem.W.specialIn K (.builtin "object.__class__") "__get__" = some (some (.builtin "getset_descriptor.__get__")))
    (xcc_NotALook : PySem.W.takesIn K (.builtin "object.__class__") = some true)
    (xob_NotALook : PySem.W.mroIn K E_NotALook (.type "object") = some true)
    (xl_NotLooks : K.lookup E_NotLooks = some (excClassObj nm_NotLooks q_NotLooks E_NotLooks N_NotLooks bs_NotLooks bm_NotLooks true sn_NotLooks sub_NotLooks ab_NotLooks col_NotLooks dd_NotLooks k0_NotLooks k1_NotLooks k2_NotLooks k3_NotLooks k5_NotLooks "ValueError.__new__"))
    (xr_NotLooks : PySem.W.excTail [Value.type "ValueError", Value.type "Exception", Value.type "BaseException", Value.type "object"] bm_NotLooks = true)
    (xs_NotLooks : PySem.W.findIn K (.ref E_NotLooks) "__setattr__" = some (some (.builtin "object.__setattr__")))
    (xx_NotLooks : PySem.W.subIn K (.ref E_NotLooks) (.type "BaseException") = some true)
    (xt_NotLooks : PySem.W.typeIn K (.ref E_NotLooks) = some (.type "type"))
    (xk_NotLooks : PySem.W.keepIn K (.ref E_NotLooks) = true)
    (xn_NotLooks : PySem.W.findIn K (.ref E_NotLooks) "given" = some none)
    (xga_NotLooks : PySem.W.findIn K (.ref E_NotLooks) "__getattribute__" = some (some (.builtin "BaseException.__getattribute__")))
    (xgg_NotLooks : PySem.W.findIn K (.ref E_NotLooks) "__getattr__" = some none)
    (xhd_NotLooks : PySem.W.hasDictIn K E_NotLooks = true)
    (xcl_NotLooks : (PySem.W.clsIn K E_NotLooks).isSome = true)
    (xca_NotLooks : PySem.W.findIn K (.ref E_NotLooks) "__class__" = some (some (.builtin "object.__class__")))
    (xcb_NotLooks : PySem.W.specialIn K (.builtin "object.__class__") "__get__" = some (some (.builtin "getset_descriptor.__get__")))
    (xcc_NotLooks : PySem.W.takesIn K (.builtin "object.__class__") = some true)
    (xob_NotLooks : PySem.W.mroIn K E_NotLooks (.type "object") = some true)
    (xl_OtherThings : K.lookup E_OtherThings = some (excClassObj nm_OtherThings q_OtherThings E_OtherThings N_OtherThings bs_OtherThings bm_OtherThings true sn_OtherThings sub_OtherThings ab_OtherThings col_OtherThings dd_OtherThings k0_OtherThings k1_OtherThings k2_OtherThings k3_OtherThings k5_OtherThings "ValueError.__new__"))
    (xr_OtherThings : PySem.W.excTail [Value.type "ValueError", Value.type "Exception", Value.type "BaseException", Value.type "object"] bm_OtherThings = true)
    (xs_OtherThings : PySem.W.findIn K (.ref E_OtherThings) "__setattr__" = some (some (.builtin "object.__setattr__")))
    (xx_OtherThings : PySem.W.subIn K (.ref E_OtherThings) (.type "BaseException") = some true)
    (xt_OtherThings : PySem.W.typeIn K (.ref E_OtherThings) = some (.type "type"))
    (xk_OtherThings : PySem.W.keepIn K (.ref E_OtherThings) = true)
    (xn_OtherThings : PySem.W.findIn K (.ref E_OtherThings) "given" = some none)
    (xga_OtherThings : PySem.W.findIn K (.ref E_OtherThings) "__getattribute__" = some (some (.builtin "BaseException.__getattribute__")))
    (xgg_OtherThings : PySem.W.findIn K (.ref E_OtherThings) "__getattr__" = some none)
    (xhd_OtherThings : PySem.W.hasDictIn K E_OtherThings = true)
    (xcl_OtherThings : (PySem.W.clsIn K E_OtherThings).isSome = true)
    (xca_OtherThings : PySem.W.findIn K (.ref E_OtherThings) "__class__" = some (some (.builtin "object.__class__")))
    (xcb_OtherThings : PySem.W.specialIn K (.builtin "object.__class__") "__get__" = some (some (.builtin "getset_descriptor.__get__")))
    (xcc_OtherThings : PySem.W.takesIn K (.builtin "object.__class__") = some true)
    (xob_OtherThings : PySem.W.mroIn K E_OtherThings (.type "object") = some true)
    (xl_UnknownThing : K.lookup E_UnknownThing = some (excClassObj nm_UnknownThing q_UnknownThing E_UnknownThing N_UnknownThing bs_UnknownThing bm_UnknownThing true sn_UnknownThing sub_UnknownThing ab_UnknownThing col_UnknownThing dd_UnknownThing k0_UnknownThing k1_UnknownThing k2_UnknownThing k3_UnknownThing k5_UnknownThing "LookupError.__new__"))
    (xr_UnknownThing : PySem.W.excTail [Value.type "LookupError", Value.type "Exception", Value.type "BaseException", Value.type "object"] bm_UnknownThing = true)
    (xs_UnknownThing : PySem.W.findIn K (.ref E_UnknownThing) "__setattr__" = some (some (.builtin "object.__setattr__")))
    (xx_UnknownThing : PySem.W.subIn K (.ref E_UnknownThing) (.type "BaseException") = some true)
    (xt_UnknownThing : PySem.W.typeIn K (.ref E_UnknownThing) = some (.type "type"))
    (xk_UnknownThing : PySem.W.keepIn K (.ref E_UnknownThing) = true)
    (xn_UnknownThing : PySem.W.findIn K (.ref E_UnknownThing) "given" = some none)
    (xga_UnknownThing : PySem.W.findIn K (.ref E_UnknownThing) "__getattribute__" = some (some (.builtin "BaseException.__getattribute__")))
    (xgg_UnknownThing : PySem.W.findIn K (.ref E_UnknownThing) "__getattr__" = some none)
    (xhd_UnknownThing : PySem.W.hasDictIn K E_UnknownThing = true)
    (xcl_UnknownThing : (PySem.W.clsIn K E_UnknownThing).isSome = true)
    (xca_UnknownThing : PySem.W.findIn K (.ref E_UnknownThing) "__class__" = some (some (.builtin "object.__class__")))
    (xcb_UnknownThing : PySem.W.specialIn K (.builtin "object.__class__") "__get__" = some (some (.builtin "getset_descriptor.__get__")))
    (xcc_UnknownThing : PySem.W.takesIn K (.builtin "object.__class__") = some true)
    (xob_UnknownThing : PySem.W.mroIn K E_UnknownThing (.type "object") = some true)
    (xl_InvalidRow : K.lookup E_InvalidRow = some (excClassObj nm_InvalidRow q_InvalidRow E_InvalidRow N_InvalidRow bs_InvalidRow bm_InvalidRow true sn_InvalidRow sub_InvalidRow ab_InvalidRow col_InvalidRow dd_InvalidRow k0_InvalidRow k1_InvalidRow k2_InvalidRow k3_InvalidRow k5_InvalidRow "ValueError.__new__"))
    (xr_InvalidRow : PySem.W.excTail [Value.type "ValueError", Value.type "Exception", Value.type "BaseException", Value.type "object"] bm_InvalidRow = true)
    (xs_InvalidRow : PySem.W.findIn K (.ref E_InvalidRow) "__setattr__" = some (some (.builtin "object.__setattr__")))
    (xx_InvalidRow : PySem.W.subIn K (.ref E_InvalidRow) (.type "BaseException") = some true)
    (xt_InvalidRow : PySem.W.typeIn K (.ref E_InvalidRow) = some (.type "type"))
    (xk_InvalidRow : PySem.W.keepIn K (.ref E_InvalidRow) = true)
    (xn_InvalidRow : PySem.W.findIn K (.ref E_InvalidRow) "index" = some none)
    (xga_InvalidRow : PySem.W.findIn K (.ref E_InvalidRow) "__getattribute__" = some (some (.builtin "BaseException.__getattribute__")))
    (xgg_InvalidRow : PySem.W.findIn K (.ref E_InvalidRow) "__getattr__" = some none)
    (xhd_InvalidRow : PySem.W.hasDictIn K E_InvalidRow = true)
    (xcl_InvalidRow : (PySem.W.clsIn K E_InvalidRow).isSome = true)
    (xca_InvalidRow : PySem.W.findIn K (.ref E_InvalidRow) "__class__" = some (some (.builtin "object.__class__")))
    (xcb_InvalidRow : PySem.W.specialIn K (.builtin "object.__class__") "__get__" = some (some (.builtin "getset_descriptor.__get__")))
    (xcc_InvalidRow : PySem.W.takesIn K (.builtin "object.__class__") = some true)
    (xob_InvalidRow : PySem.W.mroIn K E_InvalidRow (.type "object") = some true)
    (xl_InvalidMenu : K.lookup E_InvalidMenu = some (excClassObj nm_InvalidMenu q_InvalidMenu E_InvalidMenu N_InvalidMenu bs_InvalidMenu bm_InvalidMenu true sn_InvalidMenu sub_InvalidMenu ab_InvalidMenu col_InvalidMenu dd_InvalidMenu k0_InvalidMenu k1_InvalidMenu k2_InvalidMenu k3_InvalidMenu k5_InvalidMenu "ValueError.__new__"))
    (xr_InvalidMenu : PySem.W.excTail [Value.type "ValueError", Value.type "Exception", Value.type "BaseException", Value.type "object"] bm_InvalidMenu = true)
    (xs_InvalidMenu : PySem.W.findIn K (.ref E_InvalidMenu) "__setattr__" = some (some (.builtin "object.__setattr__")))
    (xx_InvalidMenu : PySem.W.subIn K (.ref E_InvalidMenu) (.type "BaseException") = some true)
    (xt_InvalidMenu : PySem.W.typeIn K (.ref E_InvalidMenu) = some (.type "type"))
    (xk_InvalidMenu : PySem.W.keepIn K (.ref E_InvalidMenu) = true)
    (xn_InvalidMenu : PySem.W.findIn K (.ref E_InvalidMenu) "index" = some none)
    (xga_InvalidMenu : PySem.W.findIn K (.ref E_InvalidMenu) "__getattribute__" = some (some (.builtin "BaseException.__getattribute__")))
    (xgg_InvalidMenu : PySem.W.findIn K (.ref E_InvalidMenu) "__getattr__" = some none)
    (xhd_InvalidMenu : PySem.W.hasDictIn K E_InvalidMenu = true)
    (xcl_InvalidMenu : (PySem.W.clsIn K E_InvalidMenu).isSome = true)
    (xca_InvalidMenu : PySem.W.findIn K (.ref E_InvalidMenu) "__class__" = some (some (.builtin "object.__class__")))
    (xcb_InvalidMenu : PySem.W.specialIn K (.builtin "object.__class__") "__get__" = some (some (.builtin "getset_descriptor.__get__")))
    (xcc_InvalidMenu : PySem.W.takesIn K (.builtin "object.__class__") = some true)
    (xob_InvalidMenu : PySem.W.mroIn K E_InvalidMenu (.type "object") = some true)
    (xl_InvalidThings : K.lookup E_InvalidThings = some (excClassObj nm_InvalidThings q_InvalidThings E_InvalidThings N_InvalidThings bs_InvalidThings bm_InvalidThings true sn_InvalidThings sub_InvalidThings ab_InvalidThings col_InvalidThings dd_InvalidThings k0_InvalidThings k1_InvalidThings k2_InvalidThings k3_InvalidThings k5_InvalidThings "ValueError.__new__"))
    (xr_InvalidThings : PySem.W.excTail [Value.type "ValueError", Value.type "Exception", Value.type "BaseException", Value.type "object"] bm_InvalidThings = true)
    (xs_InvalidThings : PySem.W.findIn K (.ref E_InvalidThings) "__setattr__" = some (some (.builtin "object.__setattr__")))
    (xx_InvalidThings : PySem.W.subIn K (.ref E_InvalidThings) (.type "BaseException") = some true)
    (xt_InvalidThings : PySem.W.typeIn K (.ref E_InvalidThings) = some (.type "type"))
    (xk_InvalidThings : PySem.W.keepIn K (.ref E_InvalidThings) = true)
    (xn_InvalidThings : PySem.W.findIn K (.ref E_InvalidThings) "index" = some none)
    (xga_InvalidThings : PySem.W.findIn K (.ref E_InvalidThings) "__getattribute__" = some (some (.builtin "BaseException.__getattribute__")))
    (xgg_InvalidThings : PySem.W.findIn K (.ref E_InvalidThings) "__getattr__" = some none)
    (xhd_InvalidThings : PySem.W.hasDictIn K E_InvalidThings = true)
    (xcl_InvalidThings : (PySem.W.clsIn K E_InvalidThings).isSome = true)
    (xca_InvalidThings : PySem.W.findIn K (.ref E_InvalidThings) "__class__" = some (some (.builtin "object.__class__")))
    (xcb_InvalidThings : PySem.W.specialIn K (.builtin "object.__class__") "__get__" = some (some (.builtin "getset_descriptor.__get__")))
    (xcc_InvalidThings : PySem.W.takesIn K (.builtin "object.__class__") = some true)
    (xob_InvalidThings : PySem.W.mroIn K E_InvalidThings (.type "object") = some true)
    (xl_InvalidTaken : K.lookup E_InvalidTaken = some (excClassObj nm_InvalidTaken q_InvalidTaken E_InvalidTaken N_InvalidTaken bs_InvalidTaken bm_InvalidTaken true sn_InvalidTaken sub_InvalidTaken ab_InvalidTaken col_InvalidTaken dd_InvalidTaken k0_InvalidTaken k1_InvalidTaken k2_InvalidTaken k3_InvalidTaken k5_InvalidTaken "ValueError.__new__"))
    (xr_InvalidTaken : PySem.W.excTail [Value.type "ValueError", Value.type "Exception", Value.type "BaseException", Value.type "object"] bm_InvalidTaken = true)
    (xs_InvalidTaken : PySem.W.findIn K (.ref E_InvalidTaken) "__setattr__" = some (some (.builtin "object.__setattr__")))
    (xx_InvalidTaken : PySem.W.subIn K (.ref E_InvalidTaken) (.type "BaseException") = some true)
    (xt_InvalidTaken : PySem.W.typeIn K (.ref E_InvalidTaken) = some (.type "type"))
    (xk_InvalidTaken : PySem.W.keepIn K (.ref E_InvalidTaken) = true)
    (xn_InvalidTaken : PySem.W.findIn K (.ref E_InvalidTaken) "index" = some none)
    (xga_InvalidTaken : PySem.W.findIn K (.ref E_InvalidTaken) "__getattribute__" = some (some (.builtin "BaseException.__getattribute__")))
    (xgg_InvalidTaken : PySem.W.findIn K (.ref E_InvalidTaken) "__getattr__" = some none)
    (xhd_InvalidTaken : PySem.W.hasDictIn K E_InvalidTaken = true)
    (xcl_InvalidTaken : (PySem.W.clsIn K E_InvalidTaken).isSome = true)
    (xca_InvalidTaken : PySem.W.findIn K (.ref E_InvalidTaken) "__class__" = some (some (.builtin "object.__class__")))
    (xcb_InvalidTaken : PySem.W.specialIn K (.builtin "object.__class__") "__get__" = some (some (.builtin "getset_descriptor.__get__")))
    (xcc_InvalidTaken : PySem.W.takesIn K (.builtin "object.__class__") = some true)
    (xob_InvalidTaken : PySem.W.mroIn K E_InvalidTaken (.type "object") = some true)
    (xl_InvalidRankings : K.lookup E_InvalidRankings = some (excClassObj nm_InvalidRankings q_InvalidRankings E_InvalidRankings N_InvalidRankings bs_InvalidRankings bm_InvalidRankings true sn_InvalidRankings sub_InvalidRankings ab_InvalidRankings col_InvalidRankings dd_InvalidRankings k0_InvalidRankings k1_InvalidRankings k2_InvalidRankings k3_InvalidRankings k5_InvalidRankings "ValueError.__new__"))
    (xr_InvalidRankings : PySem.W.excTail [Value.type "ValueError", Value.type "Exception", Value.type "BaseException", Value.type "object"] bm_InvalidRankings = true)
    (xs_InvalidRankings : PySem.W.findIn K (.ref E_InvalidRankings) "__setattr__" = some (some (.builtin "object.__setattr__")))
    (xx_InvalidRankings : PySem.W.subIn K (.ref E_InvalidRankings) (.type "BaseException") = some true)
    (xt_InvalidRankings : PySem.W.typeIn K (.ref E_InvalidRankings) = some (.type "type"))
    (xk_InvalidRankings : PySem.W.keepIn K (.ref E_InvalidRankings) = true)
    (xn_InvalidRankings : PySem.W.findIn K (.ref E_InvalidRankings) "index" = some none)
    (xga_InvalidRankings : PySem.W.findIn K (.ref E_InvalidRankings) "__getattribute__" = some (some (.builtin "BaseException.__getattribute__")))
    (xgg_InvalidRankings : PySem.W.findIn K (.ref E_InvalidRankings) "__getattr__" = some none)
    (xhd_InvalidRankings : PySem.W.hasDictIn K E_InvalidRankings = true)
    (xcl_InvalidRankings : (PySem.W.clsIn K E_InvalidRankings).isSome = true)
    (xca_InvalidRankings : PySem.W.findIn K (.ref E_InvalidRankings) "__class__" = some (some (.builtin "object.__class__")))
    (xcb_InvalidRankings : PySem.W.specialIn K (.builtin "object.__class__") "__get__" = some (some (.builtin "getset_descriptor.__get__")))
    (xcc_InvalidRankings : PySem.W.takesIn K (.builtin "object.__class__") = some true)
    (xob_InvalidRankings : PySem.W.mroIn K E_InvalidRankings (.type "object") = some true)
    (xl_InvalidLooks : K.lookup E_InvalidLooks = some (excClassObj nm_InvalidLooks q_InvalidLooks E_InvalidLooks N_InvalidLooks bs_InvalidLooks bm_InvalidLooks true sn_InvalidLooks sub_InvalidLooks ab_InvalidLooks col_InvalidLooks dd_InvalidLooks k0_InvalidLooks k1_InvalidLooks k2_InvalidLooks k3_InvalidLooks k5_InvalidLooks "ValueError.__new__"))
    (xr_InvalidLooks : PySem.W.excTail [Value.type "ValueError", Value.type "Exception", Value.type "BaseException", Value.type "object"] bm_InvalidLooks = true)
    (xs_InvalidLooks : PySem.W.findIn K (.ref E_InvalidLooks) "__setattr__" = some (some (.builtin "object.__setattr__")))
    (xx_InvalidLooks : PySem.W.subIn K (.ref E_InvalidLooks) (.type "BaseException") = some true)
    (xt_InvalidLooks : PySem.W.typeIn K (.ref E_InvalidLooks) = some (.type "type"))
    (xk_InvalidLooks : PySem.W.keepIn K (.ref E_InvalidLooks) = true)
    (xn_InvalidLooks : PySem.W.findIn K (.ref E_InvalidLooks) "index" = some none)
    (xga_InvalidLooks : PySem.W.findIn K (.ref E_InvalidLooks) "__getattribute__" = some (some (.builtin "BaseException.__getattribute__")))
    (xgg_InvalidLooks : PySem.W.findIn K (.ref E_InvalidLooks) "__getattr__" = some none)
    (xhd_InvalidLooks : PySem.W.hasDictIn K E_InvalidLooks = true)
    (xcl_InvalidLooks : (PySem.W.clsIn K E_InvalidLooks).isSome = true)
    (xca_InvalidLooks : PySem.W.findIn K (.ref E_InvalidLooks) "__class__" = some (some (.builtin "object.__class__")))
    (xcb_InvalidLooks : PySem.W.specialIn K (.builtin "object.__class__") "__get__" = some (some (.builtin "getset_descriptor.__get__")))
    (xcc_InvalidLooks : PySem.W.takesIn K (.builtin "object.__class__") = some true)
    (xob_InvalidLooks : PySem.W.mroIn K E_InvalidLooks (.type "object") = some true)
    (xl_InvalidTable : K.lookup E_InvalidTable = some (excClassObj nm_InvalidTable q_InvalidTable E_InvalidTable N_InvalidTable bs_InvalidTable bm_InvalidTable true sn_InvalidTable sub_InvalidTable ab_InvalidTable col_InvalidTable dd_InvalidTable k0_InvalidTable k1_InvalidTable k2_InvalidTable k3_InvalidTable k5_InvalidTable "ValueError.__new__"))
    (xr_InvalidTable : PySem.W.excTail [Value.type "ValueError", Value.type "Exception", Value.type "BaseException", Value.type "object"] bm_InvalidTable = true)
    (xs_InvalidTable : PySem.W.findIn K (.ref E_InvalidTable) "__setattr__" = some (some (.builtin "object.__setattr__")))
    (xx_InvalidTable : PySem.W.subIn K (.ref E_InvalidTable) (.type "BaseException") = some true)
    (xt_InvalidTable : PySem.W.typeIn K (.ref E_InvalidTable) = some (.type "type"))
    (xk_InvalidTable : PySem.W.keepIn K (.ref E_InvalidTable) = true)
    (xn_InvalidTable : PySem.W.findIn K (.ref E_InvalidTable) "index" = some none)
    (xga_InvalidTable : PySem.W.findIn K (.ref E_InvalidTable) "__getattribute__" = some (some (.builtin "BaseException.__getattribute__")))
    (xgg_InvalidTable : PySem.W.findIn K (.ref E_InvalidTable) "__getattr__" = some none)
    (xhd_InvalidTable : PySem.W.hasDictIn K E_InvalidTable = true)
    (xcl_InvalidTable : (PySem.W.clsIn K E_InvalidTable).isSome = true)
    (xca_InvalidTable : PySem.W.findIn K (.ref E_InvalidTable) "__class__" = some (some (.builtin "object.__class__")))
    (xcb_InvalidTable : PySem.W.specialIn K (.builtin "object.__class__") "__get__" = some (some (.builtin "getset_descriptor.__get__")))
    (xcc_InvalidTable : PySem.W.takesIn K (.builtin "object.__class__") = some true)
    (xob_InvalidTable : PySem.W.mroIn K E_InvalidTable (.type "object") = some true)
    (xl_Clash : K.lookup E_Clash = some (excClassObj nm_Clash q_Clash E_Clash N_Clash bs_Clash bm_Clash true sn_Clash sub_Clash ab_Clash col_Clash dd_Clash k0_Clash k1_Clash k2_Clash k3_Clash k5_Clash "ArithmeticError.__new__"))
    (xr_Clash : PySem.W.excTail [Value.type "ArithmeticError", Value.type "Exception", Value.type "BaseException", Value.type "object"] bm_Clash = true)
    (xs_Clash : PySem.W.findIn K (.ref E_Clash) "__setattr__" = some (some (.builtin "object.__setattr__")))
    (xx_Clash : PySem.W.subIn K (.ref E_Clash) (.type "BaseException") = some true)
    (xt_Clash : PySem.W.typeIn K (.ref E_Clash) = some (.type "type"))
    (xk_Clash : PySem.W.keepIn K (.ref E_Clash) = true)
    (xn_Clash : PySem.W.findIn K (.ref E_Clash) "index" = some none)
    (xga_Clash : PySem.W.findIn K (.ref E_Clash) "__getattribute__" = some (some (.builtin "BaseException.__getattribute__")))
    (xgg_Clash : PySem.W.findIn K (.ref E_Clash) "__getattr__" = some none)
    (xhd_Clash : PySem.W.hasDictIn K E_Clash = true)
    (xcl_Clash : (PySem.W.clsIn K E_Clash).isSome = true)
    (xca_Clash : PySem.W.findIn K (.ref E_Clash) "__class__" = some (some (.builtin "object.__class__")))
    (xcb_Clash : PySem.W.specialIn K (.builtin "object.__class__") "__get__" = some (some (.builtin "getset_descriptor.__get__")))
    (xcc_Clash : PySem.W.takesIn K (.builtin "object.__class__") = some true)
    (xob_Clash : PySem.W.mroIn K E_Clash (.type "object") = some true)
    (xl_Broken : K.lookup E_Broken = some (excClassObj nm_Broken q_Broken E_Broken N_Broken bs_Broken bm_Broken true sn_Broken sub_Broken ab_Broken col_Broken dd_Broken k0_Broken k1_Broken k2_Broken k3_Broken k5_Broken "ArithmeticError.__new__"))
    (xr_Broken : PySem.W.excTail [Value.type "ArithmeticError", Value.type "Exception", Value.type "BaseException", Value.type "object"] bm_Broken = true)
    (xs_Broken : PySem.W.findIn K (.ref E_Broken) "__setattr__" = some (some (.builtin "object.__setattr__")))
    (xx_Broken : PySem.W.subIn K (.ref E_Broken) (.type "BaseException") = some true)
    (xt_Broken : PySem.W.typeIn K (.ref E_Broken) = some (.type "type"))
    (xk_Broken : PySem.W.keepIn K (.ref E_Broken) = true)
    (xn_Broken : PySem.W.findIn K (.ref E_Broken) "index" = some none)
    (xga_Broken : PySem.W.findIn K (.ref E_Broken) "__getattribute__" = some (some (.builtin "BaseException.__getattribute__")))
    (xgg_Broken : PySem.W.findIn K (.ref E_Broken) "__getattr__" = some none)
    (xhd_Broken : PySem.W.hasDictIn K E_Broken = true)
    (xcl_Broken : (PySem.W.clsIn K E_Broken).isSome = true)
    (xca_Broken : PySem.W.findIn K (.ref E_Broken) "__class__" = some (some (.builtin "object.__class__")))
    (xcb_Broken : PySem.W.specialIn K (.builtin "object.__class__") "__get__" = some (some (.builtin "getset_descriptor.__get__")))
    (xcc_Broken : PySem.W.takesIn K (.builtin "object.__class__") = some true)
    (xob_Broken : PySem.W.mroIn K E_Broken (.type "object") = some true)
    (xl_TooMany : K.lookup E_TooMany = some (excClassObj nm_TooMany q_TooMany E_TooMany N_TooMany bs_TooMany bm_TooMany true sn_TooMany sub_TooMany ab_TooMany col_TooMany dd_TooMany k0_TooMany k1_TooMany k2_TooMany k3_TooMany k5_TooMany "ArithmeticError.__new__"))
    (xr_TooMany : PySem.W.excTail [Value.type "ArithmeticError", Value.type "Exception", Value.type "BaseException", Value.type "object"] bm_TooMany = true)
    (xs_TooMany : PySem.W.findIn K (.ref E_TooMany) "__setattr__" = some (some (.builtin "object.__setattr__")))
    (xx_TooMany : PySem.W.subIn K (.ref E_TooMany) (.type "BaseException") = some true)
    (xt_TooMany : PySem.W.typeIn K (.ref E_TooMany) = some (.type "type"))
    (xk_TooMany : PySem.W.keepIn K (.ref E_TooMany) = true)
    (xn_TooMany : PySem.W.findIn K (.ref E_TooMany) "number" = some none)
    (xga_TooMany : PySem.W.findIn K (.ref E_TooMany) "__getattribute__" = some (some (.builtin "BaseException.__getattribute__")))
    (xgg_TooMany : PySem.W.findIn K (.ref E_TooMany) "__getattr__" = some none)
    (xhd_TooMany : PySem.W.hasDictIn K E_TooMany = true)
    (xcl_TooMany : (PySem.W.clsIn K E_TooMany).isSome = true)
    (xca_TooMany : PySem.W.findIn K (.ref E_TooMany) "__class__" = some (some (.builtin "object.__class__")))
    (xcb_TooMany : PySem.W.specialIn K (.builtin "object.__class__") "__get__" = some (some (.builtin "getset_descriptor.__get__")))
    (xcc_TooMany : PySem.W.takesIn K (.builtin "object.__class__") = some true)
    (xob_TooMany : PySem.W.mroIn K E_TooMany (.type "object") = some true)
    (xl_NoHouse : K.lookup E_NoHouse = some (excClassObj nm_NoHouse q_NoHouse E_NoHouse N_NoHouse bs_NoHouse bm_NoHouse true sn_NoHouse sub_NoHouse ab_NoHouse col_NoHouse dd_NoHouse k0_NoHouse k1_NoHouse k2_NoHouse k3_NoHouse k5_NoHouse "ArithmeticError.__new__"))
    (xr_NoHouse : PySem.W.excTail [Value.type "ArithmeticError", Value.type "Exception", Value.type "BaseException", Value.type "object"] bm_NoHouse = true)
    (xs_NoHouse : PySem.W.findIn K (.ref E_NoHouse) "__setattr__" = some (some (.builtin "object.__setattr__")))
    (xx_NoHouse : PySem.W.subIn K (.ref E_NoHouse) (.type "BaseException") = some true)
    (xt_NoHouse : PySem.W.typeIn K (.ref E_NoHouse) = some (.type "type"))
    (xk_NoHouse : PySem.W.keepIn K (.ref E_NoHouse) = true)
    (xn_NoHouse : PySem.W.findIn K (.ref E_NoHouse) "menu" = some none)
    (xga_NoHouse : PySem.W.findIn K (.ref E_NoHouse) "__getattribute__" = some (some (.builtin "BaseException.__getattribute__")))
    (xgg_NoHouse : PySem.W.findIn K (.ref E_NoHouse) "__getattr__" = some none)
    (xhd_NoHouse : PySem.W.hasDictIn K E_NoHouse = true)
    (xcl_NoHouse : (PySem.W.clsIn K E_NoHouse).isSome = true)
    (xca_NoHouse : PySem.W.findIn K (.ref E_NoHouse) "__class__" = some (some (.builtin "object.__class__")))
    (xcb_NoHouse : PySem.W.specialIn K (.builtin "object.__class__") "__get__" = some (some (.builtin "getset_descriptor.__get__")))
    (xcc_NoHouse : PySem.W.takesIn K (.builtin "object.__class__") = some true)
    (xob_NoHouse : PySem.W.mroIn K E_NoHouse (.type "object") = some true)
    (xl_NoTable : K.lookup E_NoTable = some (excClassObj nm_NoTable q_NoTable E_NoTable N_NoTable bs_NoTable bm_NoTable true sn_NoTable sub_NoTable ab_NoTable col_NoTable dd_NoTable k0_NoTable k1_NoTable k2_NoTable k3_NoTable k5_NoTable "ArithmeticError.__new__"))
    (xr_NoTable : PySem.W.excTail [Value.type "ArithmeticError", Value.type "Exception", Value.type "BaseException", Value.type "object"] bm_NoTable = true)
    (xs_NoTable : PySem.W.findIn K (.ref E_NoTable) "__setattr__" = some (some (.builtin "object.__setattr__")))
    (xx_NoTable : PySem.W.subIn K (.ref E_NoTable) (.type "BaseException") = some true)
    (xt_NoTable : PySem.W.typeIn K (.ref E_NoTable) = some (.type "type"))
    (xk_NoTable : PySem.W.keepIn K (.ref E_NoTable) = true)
    (xn_NoTable : PySem.W.findIn K (.ref E_NoTable) "first" = some none)
    (xn_NoTable_second : PySem.W.findIn K (.ref E_NoTable) "second" = some none)
    (xga_NoTable : PySem.W.findIn K (.ref E_NoTable) "__getattribute__" = some (some (.builtin "BaseException.__getattribute__")))
    (xgg_NoTable : PySem.W.findIn K (.ref E_NoTable) "__getattr__" = some none)
    (xhd_NoTable : PySem.W.hasDictIn K E_NoTable = true)
    (xcl_NoTable : (PySem.W.clsIn K E_NoTable).isSome = true)
    (xca_NoTable : PySem.W.findIn K (.ref E_NoTable) "__class__" = some (some (.builtin "object.__class__")))
    (xcb_NoTable : PySem.W.specialIn K (.builtin "object.__class__") "__get__" = some (some (.builtin "getset_descriptor.__get__")))
    (xcc_NoTable : PySem.W.takesIn K (.builtin "object.__class__") = some true)
    (xob_NoTable : PySem.W.mroIn K E_NoTable (.type "object") = some true)
    (xl_NothingToUndo : K.lookup E_NothingToUndo = some (excClassObj nm_NothingToUndo q_NothingToUndo E_NothingToUndo N_NothingToUndo bs_NothingToUndo bm_NothingToUndo true sn_NothingToUndo sub_NothingToUndo ab_NothingToUndo col_NothingToUndo dd_NothingToUndo k0_NothingToUndo k1_NothingToUndo k2_NothingToUndo k3_NothingToUndo k5_NothingToUndo "ArithmeticError.__new__"))
    (xr_NothingToUndo : PySem.W.excTail [Value.type "ArithmeticError", Value.type "Exception", Value.type "BaseException", Value.type "object"] bm_NothingToUndo = true)
    (xs_NothingToUndo : PySem.W.findIn K (.ref E_NothingToUndo) "__setattr__" = some (some (.builtin "object.__setattr__")))
    (xi_NothingToUndo : PySem.W.findIn K (.ref E_NothingToUndo) "__init__" = some (some (.builtin "ArithmeticError.__init__")))
    (xx_NothingToUndo : PySem.W.subIn K (.ref E_NothingToUndo) (.type "BaseException") = some true)
    (xt_NothingToUndo : PySem.W.typeIn K (.ref E_NothingToUndo) = some (.type "type"))
    (xk_NothingToUndo : PySem.W.keepIn K (.ref E_NothingToUndo) = true)
    (xga_NothingToUndo : PySem.W.findIn K (.ref E_NothingToUndo) "__getattribute__" = some (some (.builtin "BaseException.__getattribute__")))
    (xgg_NothingToUndo : PySem.W.findIn K (.ref E_NothingToUndo) "__getattr__" = some none)
    (xhd_NothingToUndo : PySem.W.hasDictIn K E_NothingToUndo = true)
    (xcl_NothingToUndo : (PySem.W.clsIn K E_NothingToUndo).isSome = true)
    (xca_NothingToUndo : PySem.W.findIn K (.ref E_NothingToUndo) "__class__" = some (some (.builtin "object.__class__")))
    (xcb_NothingToUndo : PySem.W.specialIn K (.builtin "object.__class__") "__get__" = some (some (.builtin "getset_descriptor.__get__")))
    (xcc_NothingToUndo : PySem.W.takesIn K (.builtin "object.__class__") = some true)
    (xob_NothingToUndo : PySem.W.mroIn K E_NothingToUndo (.type "object") = some true)
    (kt_InvalidText : ([.ref E_InvalidText, .ref E_InvalidMarks, .ref E_InvalidIndex, .ref E_InvalidWord, .ref E_NotARanking, .ref E_NotAHouse, .ref E_NotALook, .ref E_NotLooks, .ref E_OtherThings, .ref E_UnknownThing, .ref E_InvalidRow, .ref E_InvalidMenu, .ref E_InvalidThings, .ref E_InvalidTaken, .ref E_InvalidRankings, .ref E_InvalidLooks, .ref E_InvalidTable, .ref E_Clash, .ref E_Broken, .ref E_TooMany, .ref E_NoHouse, .ref E_NoTable, .ref E_NothingToUndo, .ref E_WrongValue, .ref E_WrongName, .ref E_NoAnswer, .type "ValueError", .type "LookupError", .type "ArithmeticError"] : List Value).map (PySem.W.kitOne K (.ref E_InvalidText)) = [some true, some false, some false, some false, some false, some false, some false, some false, some false, some false, some false, some false, some false, some false, some false, some false, some false, some false, some false, some false, some false, some false, some false, some true, some false, some false, some true, some false, some false])
    (kt_InvalidMarks : ([.ref E_InvalidText, .ref E_InvalidMarks, .ref E_InvalidIndex, .ref E_InvalidWord, .ref E_NotARanking, .ref E_NotAHouse, .ref E_NotALook, .ref E_NotLooks, .ref E_OtherThings, .ref E_UnknownThing, .ref E_InvalidRow, .ref E_InvalidMenu, .ref E_InvalidThings, .ref E_InvalidTaken, .ref E_InvalidRankings, .ref E_InvalidLooks, .ref E_InvalidTable, .ref E_Clash, .ref E_Broken, .ref E_TooMany, .ref E_NoHouse, .ref E_NoTable, .ref E_NothingToUndo, .ref E_WrongValue, .ref E_WrongName, .ref E_NoAnswer, .type "ValueError", .type "LookupError", .type "ArithmeticError"] : List Value).map (PySem.W.kitOne K (.ref E_InvalidMarks)) = [some false, some true, some false, some false, some false, some false, some false, some false, some false, some false, some false, some false, some false, some false, some false, some false, some false, some false, some false, some false, some false, some false, some false, some true, some false, some false, some true, some false, some false])
    (kt_InvalidIndex : ([.ref E_InvalidText, .ref E_InvalidMarks, .ref E_InvalidIndex, .ref E_InvalidWord, .ref E_NotARanking, .ref E_NotAHouse, .ref E_NotALook, .ref E_NotLooks, .ref E_OtherThings, .ref E_UnknownThing, .ref E_InvalidRow, .ref E_InvalidMenu, .ref E_InvalidThings, .ref E_InvalidTaken, .ref E_InvalidRankings, .ref E_InvalidLooks, .ref E_InvalidTable, .ref E_Clash, .ref E_Broken, .ref E_TooMany, .ref E_NoHouse, .ref E_NoTable, .ref E_NothingToUndo, .ref E_WrongValue, .ref E_WrongName, .ref E_NoAnswer, .type "ValueError", .type "LookupError", .type "ArithmeticError"] : List Value).map (PySem.W.kitOne K (.ref E_InvalidIndex)) = [some false, some false, some true, some false, some false, some false, some false, some false, some false, some false, some false, some false, some false, some false, some false, some false, some false, some false, some false, some false, some false, some false, some false, some true, some false, some false, some true, some false, some false])
    (kt_InvalidWord : ([.ref E_InvalidText, .ref E_InvalidMarks, .ref E_InvalidIndex, .ref E_InvalidWord, .ref E_NotARanking, .ref E_NotAHouse, .ref E_NotALook, .ref E_NotLooks, .ref E_OtherThings, .ref E_UnknownThing, .ref E_InvalidRow, .ref E_InvalidMenu, .ref E_InvalidThings, .ref E_InvalidTaken, .ref E_InvalidRankings, .ref E_InvalidLooks, .ref E_InvalidTable, .ref E_Clash, .ref E_Broken, .ref E_TooMany, .ref E_NoHouse, .ref E_NoTable, .ref E_NothingToUndo, .ref E_WrongValue, .ref E_WrongName, .ref E_NoAnswer, .type "ValueError", .type "LookupError", .type "ArithmeticError"] : List Value).map (PySem.W.kitOne K (.ref E_InvalidWord)) = [some false, some false, some false, some true, some false, some false, some false, some false, some false, some false, some false, some false, some false, some false, some false, some false, some false, some false, some false, some false, some false, some false, some false, some true, some false, some false, some true, some false, some false])
    (kt_NotARanking : ([.ref E_InvalidText, .ref E_InvalidMarks, .ref E_InvalidIndex, .ref E_InvalidWord, .ref E_NotARanking, .ref E_NotAHouse, .ref E_NotALook, .ref E_NotLooks, .ref E_OtherThings, .ref E_UnknownThing, .ref E_InvalidRow, .ref E_InvalidMenu, .ref E_InvalidThings, .ref E_InvalidTaken, .ref E_InvalidRankings, .ref E_InvalidLooks, .ref E_InvalidTable, .ref E_Clash, .ref E_Broken, .ref E_TooMany, .ref E_NoHouse, .ref E_NoTable, .ref E_NothingToUndo, .ref E_WrongValue, .ref E_WrongName, .ref E_NoAnswer, .type "ValueError", .type "LookupError", .type "ArithmeticError"] : List Value).map (PySem.W.kitOne K (.ref E_NotARanking)) = [some false, some false, some false, some false, some true, some false, some false, some false, some false, some false, some false, some false, some false, some false, some false, some false, some false, some false, some false, some false, some false, some false, some false, some true, some false, some false, some true, some false, some false])
    (kt_NotAHouse : ([.ref E_InvalidText, .ref E_InvalidMarks, .ref E_InvalidIndex, .ref E_InvalidWord, .ref E_NotARanking, .ref E_NotAHouse, .ref E_NotALook, .ref E_NotLooks, .ref E_OtherThings, .ref E_UnknownThing, .ref E_InvalidRow, .ref E_InvalidMenu, .ref E_InvalidThings, .ref E_InvalidTaken, .ref E_InvalidRankings, .ref E_InvalidLooks, .ref E_InvalidTable, .ref E_Clash, .ref E_Broken, .ref E_TooMany, .ref E_NoHouse, .ref E_NoTable, .ref E_NothingToUndo, .ref E_WrongValue, .ref E_WrongName, .ref E_NoAnswer, .type "ValueError", .type "LookupError", .type "ArithmeticError"] : List Value).map (PySem.W.kitOne K (.ref E_NotAHouse)) = [some false, some false, some false, some false, some false, some true, some false, some false, some false, some false, some false, some false, some false, some false, some false, some false, some false, some false, some false, some false, some false, some false, some false, some true, some false, some false, some true, some false, some false])
    (kt_NotALook : ([.ref E_InvalidText, .ref E_InvalidMarks, .ref E_InvalidIndex, .ref E_InvalidWord, .ref E_NotARanking, .ref E_NotAHouse, .ref E_NotALook, .ref E_NotLooks, .ref E_OtherThings, .ref E_UnknownThing, .ref E_InvalidRow, .ref E_InvalidMenu, .ref E_InvalidThings, .ref E_InvalidTaken, .ref E_InvalidRankings, .ref E_InvalidLooks, .ref E_InvalidTable, .ref E_Clash, .ref E_Broken, .ref E_TooMany, .ref E_NoHouse, .ref E_NoTable, .ref E_NothingToUndo, .ref E_WrongValue, .ref E_WrongName, .ref E_NoAnswer, .type "ValueError", .type "LookupError", .type "ArithmeticError"] : List Value).map (PySem.W.kitOne K (.ref E_NotALook)) = [some false, some false, some false, some false, some false, some false, some true, some false, some false, some false, some false, some false, some false, some false, some false, some false, some false, some false, some false, some false, some false, some false, some false, some true, some false, some false, some true, some false, some false])
    (kt_NotLooks : ([.ref E_InvalidText, .ref E_InvalidMarks, .ref E_InvalidIndex, .ref E_InvalidWord, .ref E_NotARanking, .ref E_NotAHouse, .ref E_NotALook, .ref E_NotLooks, .ref E_OtherThings, .ref E_UnknownThing, .ref E_InvalidRow, .ref E_InvalidMenu, .ref E_InvalidThings, .ref E_InvalidTaken, .ref E_InvalidRankings, .ref E_InvalidLooks, .ref E_InvalidTable, .ref E_Clash, .ref E_Broken, .ref E_TooMany, .ref E_NoHouse, .ref E_NoTable, .ref E_NothingToUndo, .ref E_WrongValue, .ref E_WrongName, .ref E_NoAnswer, .type "ValueError", .type "LookupError", .type "ArithmeticError"] : List Value).map (PySem.W.kitOne K (.ref E_NotLooks)) = [some false, some false, some false, some false, some false, some false, some false, some true, some false, some false, some false, some false, some false, some false, some false, some false, some false, some false, some false, some false, some false, some false, some false, some true, some false, some false, some true, some false, some false])
    (kt_OtherThings : ([.ref E_InvalidText, .ref E_InvalidMarks, .ref E_InvalidIndex, .ref E_InvalidWord, .ref E_NotARanking, .ref E_NotAHouse, .ref E_NotALook, .ref E_NotLooks, .ref E_OtherThings, .ref E_UnknownThing, .ref E_InvalidRow, .ref E_InvalidMenu, .ref E_InvalidThings, .ref E_InvalidTaken, .ref E_InvalidRankings, .ref E_InvalidLooks, .ref E_InvalidTable, .ref E_Clash, .ref E_Broken, .ref E_TooMany, .ref E_NoHouse, .ref E_NoTable, .ref E_NothingToUndo, .ref E_WrongValue, .ref E_WrongName, .ref E_NoAnswer, .type "ValueError", .type "LookupError", .type "ArithmeticError"] : List Value).map (PySem.W.kitOne K (.ref E_OtherThings)) = [some false, some false, some false, some false, some false, some false, some false, some false, some true, some false, some false, some false, some false, some false, some false, some false, some false, some false, some false, some false, some false, some false, some false, some true, some false, some false, some true, some false, some false])
    (kt_UnknownThing : ([.ref E_InvalidText, .ref E_InvalidMarks, .ref E_InvalidIndex, .ref E_InvalidWord, .ref E_NotARanking, .ref E_NotAHouse, .ref E_NotALook, .ref E_NotLooks, .ref E_OtherThings, .ref E_UnknownThing, .ref E_InvalidRow, .ref E_InvalidMenu, .ref E_InvalidThings, .ref E_InvalidTaken, .ref E_InvalidRankings, .ref E_InvalidLooks, .ref E_InvalidTable, .ref E_Clash, .ref E_Broken, .ref E_TooMany, .ref E_NoHouse, .ref E_NoTable, .ref E_NothingToUndo, .ref E_WrongValue, .ref E_WrongName, .ref E_NoAnswer, .type "ValueError", .type "LookupError", .type "ArithmeticError"] : List Value).map (PySem.W.kitOne K (.ref E_UnknownThing)) = [some false, some false, some false, some false, some false, some false, some false, some false, some false, some true, some false, some false, some false, some false, some false, some false, some false, some false, some false, some false, some false, some false, some false, some false, some true, some false, some false, some true, some false])
    (kt_InvalidRow : ([.ref E_InvalidText, .ref E_InvalidMarks, .ref E_InvalidIndex, .ref E_InvalidWord, .ref E_NotARanking, .ref E_NotAHouse, .ref E_NotALook, .ref E_NotLooks, .ref E_OtherThings, .ref E_UnknownThing, .ref E_InvalidRow, .ref E_InvalidMenu, .ref E_InvalidThings, .ref E_InvalidTaken, .ref E_InvalidRankings, .ref E_InvalidLooks, .ref E_InvalidTable, .ref E_Clash, .ref E_Broken, .ref E_TooMany, .ref E_NoHouse, .ref E_NoTable, .ref E_NothingToUndo, .ref E_WrongValue, .ref E_WrongName, .ref E_NoAnswer, .type "ValueError", .type "LookupError", .type "ArithmeticError"] : List Value).map (PySem.W.kitOne K (.ref E_InvalidRow)) = [some false, some false, some false, some false, some false, some false, some false, some false, some false, some false, some true, some false, some false, some false, some false, some false, some false, some false, some false, some false, some false, some false, some false, some true, some false, some false, some true, some false, some false])
    (kt_InvalidMenu : ([.ref E_InvalidText, .ref E_InvalidMarks, .ref E_InvalidIndex, .ref E_InvalidWord, .ref E_NotARanking, .ref E_NotAHouse, .ref E_NotALook, .ref E_NotLooks, .ref E_OtherThings, .ref E_UnknownThing, .ref E_InvalidRow, .ref E_InvalidMenu, .ref E_InvalidThings, .ref E_InvalidTaken, .ref E_InvalidRankings, .ref E_InvalidLooks, .ref E_InvalidTable, .ref E_Clash, .ref E_Broken, .ref E_TooMany, .ref E_NoHouse, .ref E_NoTable, .ref E_NothingToUndo, .ref E_WrongValue, .ref E_WrongName, .ref E_NoAnswer, .type "ValueError", .type "LookupError", .type "ArithmeticError"] : List Value).map (PySem.W.kitOne K (.ref E_InvalidMenu)) = [some false, some false, some false, some false, some false, some false, some false, some false, some false, some false, some false, some true, some false, some false, some false, some false, some false, some false, some false, some false, some false, some false, some false, some true, some false, some false, some true, some false, some false])
    (kt_InvalidThings : ([.ref E_InvalidText, .ref E_InvalidMarks, .ref E_InvalidIndex, .ref E_InvalidWord, .ref E_NotARanking, .ref E_NotAHouse, .ref E_NotALook, .ref E_NotLooks, .ref E_OtherThings, .ref E_UnknownThing, .ref E_InvalidRow, .ref E_InvalidMenu, .ref E_InvalidThings, .ref E_InvalidTaken, .ref E_InvalidRankings, .ref E_InvalidLooks, .ref E_InvalidTable, .ref E_Clash, .ref E_Broken, .ref E_TooMany, .ref E_NoHouse, .ref E_NoTable, .ref E_NothingToUndo, .ref E_WrongValue, .ref E_WrongName, .ref E_NoAnswer, .type "ValueError", .type "LookupError", .type "ArithmeticError"] : List Value).map (PySem.W.kitOne K (.ref E_InvalidThings)) = [some false, some false, some false, some false, some false, some false, some false, some false, some false, some false, some false, some false, some true, some false, some false, some false, some false, some false, some false, some false, some false, some false, some false, some true, some false, some false, some true, some false, some false])
    (kt_InvalidTaken : ([.ref E_InvalidText, .ref E_InvalidMarks, .ref E_InvalidIndex, .ref E_InvalidWord, .ref E_NotARanking, .ref E_NotAHouse, .ref E_NotALook, .ref E_NotLooks, .ref E_OtherThings, .ref E_UnknownThing, .ref E_InvalidRow, .ref E_InvalidMenu, .ref E_InvalidThings, .ref E_InvalidTaken, .ref E_InvalidRankings, .ref E_InvalidLooks, .ref E_InvalidTable, .ref E_Clash, .ref E_Broken, .ref E_TooMany, .ref E_NoHouse, .ref E_NoTable, .ref E_NothingToUndo, .ref E_WrongValue, .ref E_WrongName, .ref E_NoAnswer, .type "ValueError", .type "LookupError", .type "ArithmeticError"] : List Value).map (PySem.W.kitOne K (.ref E_InvalidTaken)) = [some false, some false, some false, some false, some false, some false, some false, some false, some false, some false, some false, some false, some false, some true, some false, some false, some false, some false, some false, some false, some false, some false, some false, some true, some false, some false, some true, some false, some false])
    (kt_InvalidRankings : ([.ref E_InvalidText, .ref E_InvalidMarks, .ref E_InvalidIndex, .ref E_InvalidWord, .ref E_NotARanking, .ref E_NotAHouse, .ref E_NotALook, .ref E_NotLooks, .ref E_OtherThings, .ref E_UnknownThing, .ref E_InvalidRow, .ref E_InvalidMenu, .ref E_InvalidThings, .ref E_InvalidTaken, .ref E_InvalidRankings, .ref E_InvalidLooks, .ref E_InvalidTable, .ref E_Clash, .ref E_Broken, .ref E_TooMany, .ref E_NoHouse, .ref E_NoTable, .ref E_NothingToUndo, .ref E_WrongValue, .ref E_WrongName, .ref E_NoAnswer, .type "ValueError", .type "LookupError", .type "ArithmeticError"] : List Value).map (PySem.W.kitOne K (.ref E_InvalidRankings)) = [some false, some false, some false, some false, some false, some false, some false, some false, some false, some false, some false, some false, some false, some false, some true, some false, some false, some false, some false, some false, some false, some false, some false, some true, some false, some false, some true, some false, some false])
    (kt_InvalidLooks : ([.ref E_InvalidText, .ref E_InvalidMarks, .ref E_InvalidIndex, .ref E_InvalidWord, .ref E_NotARanking, .ref E_NotAHouse, .ref E_NotALook, .ref E_NotLooks, .ref E_OtherThings, .ref E_UnknownThing, .ref E_InvalidRow, .ref E_InvalidMenu, .ref E_InvalidThings, .ref E_InvalidTaken, .ref E_InvalidRankings, .ref E_InvalidLooks, .ref E_InvalidTable, .ref E_Clash, .ref E_Broken, .ref E_TooMany, .ref E_NoHouse, .ref E_NoTable, .ref E_NothingToUndo, .ref E_WrongValue, .ref E_WrongName, .ref E_NoAnswer, .type "ValueError", .type "LookupError", .type "ArithmeticError"] : List Value).map (PySem.W.kitOne K (.ref E_InvalidLooks)) = [some false, some false, some false, some false, some false, some false, some false, some false, some false, some false, some false, some false, some false, some false, some false, some true, some false, some false, some false, some false, some false, some false, some false, some true, some false, some false, some true, some false, some false])
    (kt_InvalidTable : ([.ref E_InvalidText, .ref E_InvalidMarks, .ref E_InvalidIndex, .ref E_InvalidWord, .ref E_NotARanking, .ref E_NotAHouse, .ref E_NotALook, .ref E_NotLooks, .ref E_OtherThings, .ref E_UnknownThing, .ref E_InvalidRow, .ref E_InvalidMenu, .ref E_InvalidThings, .ref E_InvalidTaken, .ref E_InvalidRankings, .ref E_InvalidLooks, .ref E_InvalidTable, .ref E_Clash, .ref E_Broken, .ref E_TooMany, .ref E_NoHouse, .ref E_NoTable, .ref E_NothingToUndo, .ref E_WrongValue, .ref E_WrongName, .ref E_NoAnswer, .type "ValueError", .type "LookupError", .type "ArithmeticError"] : List Value).map (PySem.W.kitOne K (.ref E_InvalidTable)) = [some false, some false, some false, some false, some false, some false, some false, some false, some false, some false, some false, some false, some false, some false, some false, some false, some true, some false, some false, some false, some false, some false, some false, some true, some false, some false, some true, some false, some false])
    (kt_Clash : ([.ref E_InvalidText, .ref E_InvalidMarks, .ref E_InvalidIndex, .ref E_InvalidWord, .ref E_NotARanking, .ref E_NotAHouse, .ref E_NotALook, .ref E_NotLooks, .ref E_OtherThings, .ref E_UnknownThing, .ref E_InvalidRow, .ref E_InvalidMenu, .ref E_InvalidThings, .ref E_InvalidTaken, .ref E_InvalidRankings, .ref E_InvalidLooks, .ref E_InvalidTable, .ref E_Clash, .ref E_Broken, .ref E_TooMany, .ref E_NoHouse, .ref E_NoTable, .ref E_NothingToUndo, .ref E_WrongValue, .ref E_WrongName, .ref E_NoAnswer, .type "ValueError", .type "LookupError", .type "ArithmeticError"] : List Value).map (PySem.W.kitOne K (.ref E_Clash)) = [some false, some false, some false, some false, some false, some false, some false, some false, some false, some false, some false, some false, some false, some false, some false, some false, some false, some true, some false, some false, some false, some false, some false, some false, some false, some true, some false, some false, some true])
    (kt_Broken : ([.ref E_InvalidText, .ref E_InvalidMarks, .ref E_InvalidIndex, .ref E_InvalidWord, .ref E_NotARanking, .ref E_NotAHouse, .ref E_NotALook, .ref E_NotLooks, .ref E_OtherThings, .ref E_UnknownThing, .ref E_InvalidRow, .ref E_InvalidMenu, .ref E_InvalidThings, .ref E_InvalidTaken, .ref E_InvalidRankings, .ref E_InvalidLooks, .ref E_InvalidTable, .ref E_Clash, .ref E_Broken, .ref E_TooMany, .ref E_NoHouse, .ref E_NoTable, .ref E_NothingToUndo, .ref E_WrongValue, .ref E_WrongName, .ref E_NoAnswer, .type "ValueError", .type "LookupError", .type "ArithmeticError"] : List Value).map (PySem.W.kitOne K (.ref E_Broken)) = [some false, some false, some false, some false, some false, some false, some false, some false, some false, some false, some false, some false, some false, some false, some false, some false, some false, some false, some true, some false, some false, some false, some false, some false, some false, some true, some false, some false, some true])
    (kt_TooMany : ([.ref E_InvalidText, .ref E_InvalidMarks, .ref E_InvalidIndex, .ref E_InvalidWord, .ref E_NotARanking, .ref E_NotAHouse, .ref E_NotALook, .ref E_NotLooks, .ref E_OtherThings, .ref E_UnknownThing, .ref E_InvalidRow, .ref E_InvalidMenu, .ref E_InvalidThings, .ref E_InvalidTaken, .ref E_InvalidRankings, .ref E_InvalidLooks, .ref E_InvalidTable, .ref E_Clash, .ref E_Broken, .ref E_TooMany, .ref E_NoHouse, .ref E_NoTable, .ref E_NothingToUndo, .ref E_WrongValue, .ref E_WrongName, .ref E_NoAnswer, .type "ValueError", .type "LookupError", .type "ArithmeticError"] : List Value).map (PySem.W.kitOne K (.ref E_TooMany)) = [some false, some false, some false, some false, some false, some false, some false, some false, some false, some false, some false, some false, some false, some false, some false, some false, some false, some false, some false, some true, some false, some false, some false, some false, some false, some true, some false, some false, some true])
    (kt_NoHouse : ([.ref E_InvalidText, .ref E_InvalidMarks, .ref E_InvalidIndex, .ref E_InvalidWord, .ref E_NotARanking, .ref E_NotAHouse, .ref E_NotALook, .ref E_NotLooks, .ref E_OtherThings, .ref E_UnknownThing, .ref E_InvalidRow, .ref E_InvalidMenu, .ref E_InvalidThings, .ref E_InvalidTaken, .ref E_InvalidRankings, .ref E_InvalidLooks, .ref E_InvalidTable, .ref E_Clash, .ref E_Broken, .ref E_TooMany, .ref E_NoHouse, .ref E_NoTable, .ref E_NothingToUndo, .ref E_WrongValue, .ref E_WrongName, .ref E_NoAnswer, .type "ValueError", .type "LookupError", .type "ArithmeticError"] : List Value).map (PySem.W.kitOne K (.ref E_NoHouse)) = [some false, some false, some false, some false, some false, some false, some false, some false, some false, some false, some false, some false, some false, some false, some false, some false, some false, some false, some false, some false, some true, some false, some false, some false, some false, some true, some false, some false, some true])
    (kt_NoTable : ([.ref E_InvalidText, .ref E_InvalidMarks, .ref E_InvalidIndex, .ref E_InvalidWord, .ref E_NotARanking, .ref E_NotAHouse, .ref E_NotALook, .ref E_NotLooks, .ref E_OtherThings, .ref E_UnknownThing, .ref E_InvalidRow, .ref E_InvalidMenu, .ref E_InvalidThings, .ref E_InvalidTaken, .ref E_InvalidRankings, .ref E_InvalidLooks, .ref E_InvalidTable, .ref E_Clash, .ref E_Broken, .ref E_TooMany, .ref E_NoHouse, .ref E_NoTable, .ref E_NothingToUndo, .ref E_WrongValue, .ref E_WrongName, .ref E_NoAnswer, .type "ValueError", .type "LookupError", .type "ArithmeticError"] : List Value).map (PySem.W.kitOne K (.ref E_NoTable)) = [some false, some false, some false, some false, some false, some false, some false, some false, some false, some false, some false, some false, some false, some false, some false, some false, some false, some false, some false, some false, some false, some true, some false, some false, some false, some true, some false, some false, some true])
    (kt_NothingToUndo : ([.ref E_InvalidText, .ref E_InvalidMarks, .ref E_InvalidIndex, .ref E_InvalidWord, .ref E_NotARanking, .ref E_NotAHouse, .ref E_NotALook, .ref E_NotLooks, .ref E_OtherThings, .ref E_UnknownThing, .ref E_InvalidRow, .ref E_InvalidMenu, .ref E_InvalidThings, .ref E_InvalidTaken, .ref E_InvalidRankings, .ref E_InvalidLooks, .ref E_InvalidTable, .ref E_Clash, .ref E_Broken, .ref E_TooMany, .ref E_NoHouse, .ref E_NoTable, .ref E_NothingToUndo, .ref E_WrongValue, .ref E_WrongName, .ref E_NoAnswer, .type "ValueError", .type "LookupError", .type "ArithmeticError"] : List Value).map (PySem.W.kitOne K (.ref E_NothingToUndo)) = [some false, some false, some false, some false, some false, some false, some false, some false, some false, some false, some false, some false, some false, some false, some false, some false, some false, some false, some false, some false, some false, some false, some true, some false, some false, some true, some false, some false, some true])
    (a_InvalidTextD_initD : PySem.W.findIn K (.ref E_InvalidText) "__init__" = some (some (.ref f_InvalidTextD_initD)))
    (ti_InvalidTextD_initD : PySem.W.typeIn K (.ref f_InvalidTextD_initD) = some (.type "function"))
    (l_InvalidTextD_initD : K.lookup f_InvalidTextD_initD = some ⟨oc_InvalidTextD_initD, od_InvalidTextD_initD, .func (PySem.W.fnOf "__init__" "InvalidText.__init__" (defArgs st_InvalidTextD_initD) (defBody st_InvalidTextD_initD) (defScope st_InvalidTextD_initD) .none kV_InvalidTextD_initD dc_InvalidTextD_initD pm_InvalidTextD_initD an_InvalidTextD_initD cd_InvalidTextD_initD ct_InvalidTextD_initD), sl_InvalidTextD_initD⟩)
    (c_InvalidTextD_initD : PySem.W.codeIn K cd_InvalidTextD_initD "InvalidText.__init__" = true)
    (k_InvalidTextD_initD : PySem.W.keepIn K (.ref f_InvalidTextD_initD) = true)
    (a_InvalidMarksD_initD : PySem.W.findIn K (.ref E_InvalidMarks) "__init__" = some (some (.ref f_InvalidMarksD_initD)))
    (ti_InvalidMarksD_initD : PySem.W.typeIn K (.ref f_InvalidMarksD_initD) = some (.type "function"))
    (l_InvalidMarksD_initD : K.lookup f_InvalidMarksD_initD = some ⟨oc_InvalidMarksD_initD, od_InvalidMarksD_initD, .func (PySem.W.fnOf "__init__" "InvalidMarks.__init__" (defArgs st_InvalidMarksD_initD) (defBody st_InvalidMarksD_initD) (defScope st_InvalidMarksD_initD) .none kV_InvalidMarksD_initD dc_InvalidMarksD_initD pm_InvalidMarksD_initD an_InvalidMarksD_initD cd_InvalidMarksD_initD ct_InvalidMarksD_initD), sl_InvalidMarksD_initD⟩)
    (c_InvalidMarksD_initD : PySem.W.codeIn K cd_InvalidMarksD_initD "InvalidMarks.__init__" = true)
    (k_InvalidMarksD_initD : PySem.W.keepIn K (.ref f_InvalidMarksD_initD) = true)
    (a_InvalidIndexD_initD : PySem.W.findIn K (.ref E_InvalidIndex) "__init__" = some (some (.ref f_InvalidIndexD_initD)))
    (ti_InvalidIndexD_initD : PySem.W.typeIn K (.ref f_InvalidIndexD_initD) = some (.type "function"))
    (l_InvalidIndexD_initD : K.lookup f_InvalidIndexD_initD = some ⟨oc_InvalidIndexD_initD, od_InvalidIndexD_initD, .func (PySem.W.fnOf "__init__" "InvalidIndex.__init__" (defArgs st_InvalidIndexD_initD) (defBody st_InvalidIndexD_initD) (defScope st_InvalidIndexD_initD) .none kV_InvalidIndexD_initD dc_InvalidIndexD_initD pm_InvalidIndexD_initD an_InvalidIndexD_initD cd_InvalidIndexD_initD ct_InvalidIndexD_initD), sl_InvalidIndexD_initD⟩)
    (c_InvalidIndexD_initD : PySem.W.codeIn K cd_InvalidIndexD_initD "InvalidIndex.__init__" = true)
    (k_InvalidIndexD_initD : PySem.W.keepIn K (.ref f_InvalidIndexD_initD) = true)
    (a_InvalidWordD_initD : PySem.W.findIn K (.ref E_InvalidWord) "__init__" = some (some (.ref f_InvalidWordD_initD)))
    (ti_InvalidWordD_initD : PySem.W.typeIn K (.ref f_InvalidWordD_initD) = some (.type "function"))
    (l_InvalidWordD_initD : K.lookup f_InvalidWordD_initD = some ⟨oc_InvalidWordD_initD, od_InvalidWordD_initD, .func (PySem.W.fnOf "__init__" "InvalidWord.__init__" (defArgs st_InvalidWordD_initD) (defBody st_InvalidWordD_initD) (defScope st_InvalidWordD_initD) .none kV_InvalidWordD_initD dc_InvalidWordD_initD pm_InvalidWordD_initD an_InvalidWordD_initD cd_InvalidWordD_initD ct_InvalidWordD_initD), sl_InvalidWordD_initD⟩)
    (c_InvalidWordD_initD : PySem.W.codeIn K cd_InvalidWordD_initD "InvalidWord.__init__" = true)
    (k_InvalidWordD_initD : PySem.W.keepIn K (.ref f_InvalidWordD_initD) = true)
    (a_NotARankingD_initD : PySem.W.findIn K (.ref E_NotARanking) "__init__" = some (some (.ref f_NotARankingD_initD)))
    (ti_NotARankingD_initD : PySem.W.typeIn K (.ref f_NotARankingD_initD) = some (.type "function"))
    (l_NotARankingD_initD : K.lookup f_NotARankingD_initD = some ⟨oc_NotARankingD_initD, od_NotARankingD_initD, .func (PySem.W.fnOf "__init__" "NotARanking.__init__" (defArgs st_NotARankingD_initD) (defBody st_NotARankingD_initD) (defScope st_NotARankingD_initD) .none kV_NotARankingD_initD dc_NotARankingD_initD pm_NotARankingD_initD an_NotARankingD_initD cd_NotARankingD_initD ct_NotARankingD_initD), sl_NotARankingD_initD⟩)
    (c_NotARankingD_initD : PySem.W.codeIn K cd_NotARankingD_initD "NotARanking.__init__" = true)
    (k_NotARankingD_initD : PySem.W.keepIn K (.ref f_NotARankingD_initD) = true)
    (a_NotAHouseD_initD : PySem.W.findIn K (.ref E_NotAHouse) "__init__" = some (some (.ref f_NotAHouseD_initD)))
    (ti_NotAHouseD_initD : PySem.W.typeIn K (.ref f_NotAHouseD_initD) = some (.type "function"))
    (l_NotAHouseD_initD : K.lookup f_NotAHouseD_initD = some ⟨oc_NotAHouseD_initD, od_NotAHouseD_initD, .func (PySem.W.fnOf "__init__" "NotAHouse.__init__" (defArgs st_NotAHouseD_initD) (defBody st_NotAHouseD_initD) (defScope st_NotAHouseD_initD) .none kV_NotAHouseD_initD dc_NotAHouseD_initD pm_NotAHouseD_initD an_NotAHouseD_initD cd_NotAHouseD_initD ct_NotAHouseD_initD), sl_NotAHouseD_initD⟩)
    (c_NotAHouseD_initD : PySem.W.codeIn K cd_NotAHouseD_initD "NotAHouse.__init__" = true)
    (k_NotAHouseD_initD : PySem.W.keepIn K (.ref f_NotAHouseD_initD) = true)
    (a_NotALookD_initD : PySem.W.findIn K (.ref E_NotALook) "__init__" = some (some (.ref f_NotALookD_initD)))
    (ti_NotALookD_initD : PySem.W.typeIn K (.ref f_NotALookD_initD) = some (.type "function"))
    (l_NotALookD_initD : K.lookup f_NotALookD_initD = some ⟨oc_NotALookD_initD, od_NotALookD_initD, .func (PySem.W.fnOf "__init__" "NotALook.__init__" (defArgs st_NotALookD_initD) (defBody st_NotALookD_initD) (defScope st_NotALookD_initD) .none kV_NotALookD_initD dc_NotALookD_initD pm_NotALookD_initD an_NotALookD_initD cd_NotALookD_initD ct_NotALookD_initD), sl_NotALookD_initD⟩)
    (c_NotALookD_initD : PySem.W.codeIn K cd_NotALookD_initD "NotALook.__init__" = true)
    (k_NotALookD_initD : PySem.W.keepIn K (.ref f_NotALookD_initD) = true)
    (a_NotLooksD_initD : PySem.W.findIn K (.ref E_NotLooks) "__init__" = some (some (.ref f_NotLooksD_initD)))
    (ti_NotLooksD_initD : PySem.W.typeIn K (.ref f_NotLooksD_initD) = some (.type "function"))
    (l_NotLooksD_initD : K.lookup f_NotLooksD_initD = some ⟨oc_NotLooksD_initD, od_NotLooksD_initD, .func (PySem.W.fnOf "__init__" "NotLooks.__init__" (defArgs st_NotLooksD_initD) (defBody st_NotLooksD_initD) (defScope st_NotLooksD_initD) .none kV_NotLooksD_initD dc_NotLooksD_initD pm_NotLooksD_initD an_NotLooksD_initD cd_NotLooksD_initD ct_NotLooksD_initD), sl_NotLooksD_initD⟩)
    (c_NotLooksD_initD : PySem.W.codeIn K cd_NotLooksD_initD "NotLooks.__init__" = true)
    (k_NotLooksD_initD : PySem.W.keepIn K (.ref f_NotLooksD_initD) = true)
    (a_OtherThingsD_initD : PySem.W.findIn K (.ref E_OtherThings) "__init__" = some (some (.ref f_OtherThingsD_initD)))
    (ti_OtherThingsD_initD : PySem.W.typeIn K (.ref f_OtherThingsD_initD) = some (.type "function"))
    (l_OtherThingsD_initD : K.lookup f_OtherThingsD_initD = some ⟨oc_OtherThingsD_initD, od_OtherThingsD_initD, .func (PySem.W.fnOf "__init__" "OtherThings.__init__" (defArgs st_OtherThingsD_initD) (defBody st_OtherThingsD_initD) (defScope st_OtherThingsD_initD) .none kV_OtherThingsD_initD dc_OtherThingsD_initD pm_OtherThingsD_initD an_OtherThingsD_initD cd_OtherThingsD_initD ct_OtherThingsD_initD), sl_OtherThingsD_initD⟩)
    (c_OtherThingsD_initD : PySem.W.codeIn K cd_OtherThingsD_initD "OtherThings.__init__" = true)
    (k_OtherThingsD_initD : PySem.W.keepIn K (.ref f_OtherThingsD_initD) = true)
    (a_UnknownThingD_initD : PySem.W.findIn K (.ref E_UnknownThing) "__init__" = some (some (.ref f_UnknownThingD_initD)))
    (ti_UnknownThingD_initD : PySem.W.typeIn K (.ref f_UnknownThingD_initD) = some (.type "function"))
    (l_UnknownThingD_initD : K.lookup f_UnknownThingD_initD = some ⟨oc_UnknownThingD_initD, od_UnknownThingD_initD, .func (PySem.W.fnOf "__init__" "UnknownThing.__init__" (defArgs st_UnknownThingD_initD) (defBody st_UnknownThingD_initD) (defScope st_UnknownThingD_initD) .none kV_UnknownThingD_initD dc_UnknownThingD_initD pm_UnknownThingD_initD an_UnknownThingD_initD cd_UnknownThingD_initD ct_UnknownThingD_initD), sl_UnknownThingD_initD⟩)
    (c_UnknownThingD_initD : PySem.W.codeIn K cd_UnknownThingD_initD "UnknownThing.__init__" = true)
    (k_UnknownThingD_initD : PySem.W.keepIn K (.ref f_UnknownThingD_initD) = true)
    (a_InvalidRowD_initD : PySem.W.findIn K (.ref E_InvalidRow) "__init__" = some (some (.ref f_InvalidRowD_initD)))
    (ti_InvalidRowD_initD : PySem.W.typeIn K (.ref f_InvalidRowD_initD) = some (.type "function"))
    (l_InvalidRowD_initD : K.lookup f_InvalidRowD_initD = some ⟨oc_InvalidRowD_initD, od_InvalidRowD_initD, .func (PySem.W.fnOf "__init__" "InvalidRow.__init__" (defArgs st_InvalidRowD_initD) (defBody st_InvalidRowD_initD) (defScope st_InvalidRowD_initD) .none kV_InvalidRowD_initD dc_InvalidRowD_initD pm_InvalidRowD_initD an_InvalidRowD_initD cd_InvalidRowD_initD ct_InvalidRowD_initD), sl_InvalidRowD_initD⟩)
    (c_InvalidRowD_initD : PySem.W.codeIn K cd_InvalidRowD_initD "InvalidRow.__init__" = true)
    (k_InvalidRowD_initD : PySem.W.keepIn K (.ref f_InvalidRowD_initD) = true)
    (a_InvalidMenuD_initD : PySem.W.findIn K (.ref E_InvalidMenu) "__init__" = some (some (.ref f_InvalidMenuD_initD)))
    (ti_InvalidMenuD_initD : PySem.W.typeIn K (.ref f_InvalidMenuD_initD) = some (.type "function"))
    (l_InvalidMenuD_initD : K.lookup f_InvalidMenuD_initD = some ⟨oc_InvalidMenuD_initD, od_InvalidMenuD_initD, .func (PySem.W.fnOf "__init__" "InvalidMenu.__init__" (defArgs st_InvalidMenuD_initD) (defBody st_InvalidMenuD_initD) (defScope st_InvalidMenuD_initD) .none kV_InvalidMenuD_initD dc_InvalidMenuD_initD pm_InvalidMenuD_initD an_InvalidMenuD_initD cd_InvalidMenuD_initD ct_InvalidMenuD_initD), sl_InvalidMenuD_initD⟩)
    (c_InvalidMenuD_initD : PySem.W.codeIn K cd_InvalidMenuD_initD "InvalidMenu.__init__" = true)
    (k_InvalidMenuD_initD : PySem.W.keepIn K (.ref f_InvalidMenuD_initD) = true)
    (a_InvalidThingsD_initD : PySem.W.findIn K (.ref E_InvalidThings) "__init__" = some (some (.ref f_InvalidThingsD_initD)))
    (ti_InvalidThingsD_initD : PySem.W.typeIn K (.ref f_InvalidThingsD_initD) = some (.type "function"))
    (l_InvalidThingsD_initD : K.lookup f_InvalidThingsD_initD = some ⟨oc_InvalidThingsD_initD, od_InvalidThingsD_initD, .func (PySem.W.fnOf "__init__" "InvalidThings.__init__" (defArgs st_InvalidThingsD_initD) (defBody st_InvalidThingsD_initD) (defScope st_InvalidThingsD_initD) .none kV_InvalidThingsD_initD dc_InvalidThingsD_initD pm_InvalidThingsD_initD an_InvalidThingsD_initD cd_InvalidThingsD_initD ct_InvalidThingsD_initD), sl_InvalidThingsD_initD⟩)
    (c_InvalidThingsD_initD : PySem.W.codeIn K cd_InvalidThingsD_initD "InvalidThings.__init__" = true)
    (k_InvalidThingsD_initD : PySem.W.keepIn K (.ref f_InvalidThingsD_initD) = true)
    (a_InvalidTakenD_initD : PySem.W.findIn K (.ref E_InvalidTaken) "__init__" = some (some (.ref f_InvalidTakenD_initD)))
    (ti_InvalidTakenD_initD : PySem.W.typeIn K (.ref f_InvalidTakenD_initD) = some (.type "function"))
    (l_InvalidTakenD_initD : K.lookup f_InvalidTakenD_initD = some ⟨oc_InvalidTakenD_initD, od_InvalidTakenD_initD, .func (PySem.W.fnOf "__init__" "InvalidTaken.__init__" (defArgs st_InvalidTakenD_initD) (defBody st_InvalidTakenD_initD) (defScope st_InvalidTakenD_initD) .none kV_InvalidTakenD_initD dc_InvalidTakenD_initD pm_InvalidTakenD_initD an_InvalidTakenD_initD cd_InvalidTakenD_initD ct_InvalidTakenD_initD), sl_InvalidTakenD_initD⟩)
    (c_InvalidTakenD_initD : PySem.W.codeIn K cd_InvalidTakenD_initD "InvalidTaken.__init__" = true)
    (k_InvalidTakenD_initD : PySem.W.keepIn K (.ref f_InvalidTakenD_initD) = true)
    (a_InvalidRankingsD_initD : PySem.W.findIn K (.ref E_InvalidRankings) "__init__" = some (some (.ref f_InvalidRankingsD_initD)))
    (ti_InvalidRankingsD_initD : PySem.W.typeIn K (.ref f_InvalidRankingsD_initD) = some (.type "function"))
    (l_InvalidRankingsD_initD : K.lookup f_InvalidRankingsD_initD = some ⟨oc_InvalidRankingsD_initD, od_InvalidRankingsD_initD, .func (PySem.W.fnOf "__init__" "InvalidRankings.__init__" (defArgs st_InvalidRankingsD_initD) (defBody st_InvalidRankingsD_initD) (defScope st_InvalidRankingsD_initD) .none kV_InvalidRankingsD_initD dc_InvalidRankingsD_initD pm_InvalidRankingsD_initD an_InvalidRankingsD_initD cd_InvalidRankingsD_initD ct_InvalidRankingsD_initD), sl_InvalidRankingsD_initD⟩)
    (c_InvalidRankingsD_initD : PySem.W.codeIn K cd_InvalidRankingsD_initD "InvalidRankings.__init__" = true)
    (k_InvalidRankingsD_initD : PySem.W.keepIn K (.ref f_InvalidRankingsD_initD) = true)
    (a_InvalidLooksD_initD : PySem.W.findIn K (.ref E_InvalidLooks) "__init__" = some (some (.ref f_InvalidLooksD_initD)))
    (ti_InvalidLooksD_initD : PySem.W.typeIn K (.ref f_InvalidLooksD_initD) = some (.type "function"))
    (l_InvalidLooksD_initD : K.lookup f_InvalidLooksD_initD = some ⟨oc_InvalidLooksD_initD, od_InvalidLooksD_initD, .func (PySem.W.fnOf "__init__" "InvalidLooks.__init__" (defArgs st_InvalidLooksD_initD) (defBody st_InvalidLooksD_initD) (defScope st_InvalidLooksD_initD) .none kV_InvalidLooksD_initD dc_InvalidLooksD_initD pm_InvalidLooksD_initD an_InvalidLooksD_initD cd_InvalidLooksD_initD ct_InvalidLooksD_initD), sl_InvalidLooksD_initD⟩)
    (c_InvalidLooksD_initD : PySem.W.codeIn K cd_InvalidLooksD_initD "InvalidLooks.__init__" = true)
    (k_InvalidLooksD_initD : PySem.W.keepIn K (.ref f_InvalidLooksD_initD) = true)
    (a_InvalidTableD_initD : PySem.W.findIn K (.ref E_InvalidTable) "__init__" = some (some (.ref f_InvalidTableD_initD)))
    (ti_InvalidTableD_initD : PySem.W.typeIn K (.ref f_InvalidTableD_initD) = some (.type "function"))
    (l_InvalidTableD_initD : K.lookup f_InvalidTableD_initD = some ⟨oc_InvalidTableD_initD, od_InvalidTableD_initD, .func (PySem.W.fnOf "__init__" "InvalidTable.__init__" (defArgs st_InvalidTableD_initD) (defBody st_InvalidTableD_initD) (defScope st_InvalidTableD_initD) .none kV_InvalidTableD_initD dc_InvalidTableD_initD pm_InvalidTableD_initD an_InvalidTableD_initD cd_InvalidTableD_initD ct_InvalidTableD_initD), sl_InvalidTableD_initD⟩)
    (c_InvalidTableD_initD : PySem.W.codeIn K cd_InvalidTableD_initD "InvalidTable.__init__" = true)
    (k_InvalidTableD_initD : PySem.W.keepIn K (.ref f_InvalidTableD_initD) = true)
    (a_ClashD_initD : PySem.W.findIn K (.ref E_Clash) "__init__" = some (some (.ref f_ClashD_initD)))
    (ti_ClashD_initD : PySem.W.typeIn K (.ref f_ClashD_initD) = some (.type "function"))
    (l_ClashD_initD : K.lookup f_ClashD_initD = some ⟨oc_ClashD_initD, od_ClashD_initD, .func (PySem.W.fnOf "__init__" "Clash.__init__" (defArgs st_ClashD_initD) (defBody st_ClashD_initD) (defScope st_ClashD_initD) .none kV_ClashD_initD dc_ClashD_initD pm_ClashD_initD an_ClashD_initD cd_ClashD_initD ct_ClashD_initD), sl_ClashD_initD⟩)
    (c_ClashD_initD : PySem.W.codeIn K cd_ClashD_initD "Clash.__init__" = true)
    (k_ClashD_initD : PySem.W.keepIn K (.ref f_ClashD_initD) = true)
    (a_BrokenD_initD : PySem.W.findIn K (.ref E_Broken) "__init__" = some (some (.ref f_BrokenD_initD)))
    (ti_BrokenD_initD : PySem.W.typeIn K (.ref f_BrokenD_initD) = some (.type "function"))
    (l_BrokenD_initD : K.lookup f_BrokenD_initD = some ⟨oc_BrokenD_initD, od_BrokenD_initD, .func (PySem.W.fnOf "__init__" "Broken.__init__" (defArgs st_BrokenD_initD) (defBody st_BrokenD_initD) (defScope st_BrokenD_initD) .none kV_BrokenD_initD dc_BrokenD_initD pm_BrokenD_initD an_BrokenD_initD cd_BrokenD_initD ct_BrokenD_initD), sl_BrokenD_initD⟩)
    (c_BrokenD_initD : PySem.W.codeIn K cd_BrokenD_initD "Broken.__init__" = true)
    (k_BrokenD_initD : PySem.W.keepIn K (.ref f_BrokenD_initD) = true)
    (a_TooManyD_initD : PySem.W.findIn K (.ref E_TooMany) "__init__" = some (some (.ref f_TooManyD_initD)))
    (ti_TooManyD_initD : PySem.W.typeIn K (.ref f_TooManyD_initD) = some (.type "function"))
    (l_TooManyD_initD : K.lookup f_TooManyD_initD = some ⟨oc_TooManyD_initD, od_TooManyD_initD, .func (PySem.W.fnOf "__init__" "TooMany.__init__" (defArgs st_TooManyD_initD) (defBody st_TooManyD_initD) (defScope st_TooManyD_initD) .none kV_TooManyD_initD dc_TooManyD_initD pm_TooManyD_initD an_TooManyD_initD cd_TooManyD_initD ct_TooManyD_initD), sl_TooManyD_initD⟩)
    (c_TooManyD_initD : PySem.W.codeIn K cd_TooManyD_initD "TooMany.__init__" = true)
    (k_TooManyD_initD : PySem.W.keepIn K (.ref f_TooManyD_initD) = true)
    (a_NoHouseD_initD : PySem.W.findIn K (.ref E_NoHouse) "__init__" = some (some (.ref f_NoHouseD_initD)))
    (ti_NoHouseD_initD : PySem.W.typeIn K (.ref f_NoHouseD_initD) = some (.type "function"))
    (l_NoHouseD_initD : K.lookup f_NoHouseD_initD = some ⟨oc_NoHouseD_initD, od_NoHouseD_initD, .func (PySem.W.fnOf "__init__" "NoHouse.__init__" (defArgs st_NoHouseD_initD) (defBody st_NoHouseD_initD) (defScope st_NoHouseD_initD) .none kV_NoHouseD_initD dc_NoHouseD_initD pm_NoHouseD_initD an_NoHouseD_initD cd_NoHouseD_initD ct_NoHouseD_initD), sl_NoHouseD_initD⟩)
    (c_NoHouseD_initD : PySem.W.codeIn K cd_NoHouseD_initD "NoHouse.__init__" = true)
    (k_NoHouseD_initD : PySem.W.keepIn K (.ref f_NoHouseD_initD) = true)
    (a_NoTableD_initD : PySem.W.findIn K (.ref E_NoTable) "__init__" = some (some (.ref f_NoTableD_initD)))
    (ti_NoTableD_initD : PySem.W.typeIn K (.ref f_NoTableD_initD) = some (.type "function"))
    (l_NoTableD_initD : K.lookup f_NoTableD_initD = some ⟨oc_NoTableD_initD, od_NoTableD_initD, .func (PySem.W.fnOf "__init__" "NoTable.__init__" (defArgs st_NoTableD_initD) (defBody st_NoTableD_initD) (defScope st_NoTableD_initD) .none kV_NoTableD_initD dc_NoTableD_initD pm_NoTableD_initD an_NoTableD_initD cd_NoTableD_initD ct_NoTableD_initD), sl_NoTableD_initD⟩)
    (c_NoTableD_initD : PySem.W.codeIn K cd_NoTableD_initD "NoTable.__init__" = true)
    (k_NoTableD_initD : PySem.W.keepIn K (.ref f_NoTableD_initD) = true)
    (a_l_purse : PySem.W.nsIn K mainGlobals "_law_purse" = some (some (.ref f_l_purse)))
    (l_l_purse : K.lookup f_l_purse = some ⟨oc_l_purse, od_l_purse, .func (PySem.W.fnOf "_law_purse" "_law_purse" (defArgs st_l_purse) (defBody st_l_purse) (defScope st_l_purse) .none kV_l_purse dc_l_purse pm_l_purse an_l_purse cd_l_purse ct_l_purse), sl_l_purse⟩)
    (c_l_purse : PySem.W.codeIn K cd_l_purse "_law_purse" = true)
    (k_l_purse : PySem.W.keepIn K (.ref f_l_purse) = true)
    (a_l_draw : PySem.W.nsIn K mainGlobals "_law_draw" = some (some (.ref f_l_draw)))
    (l_l_draw : K.lookup f_l_draw = some ⟨oc_l_draw, od_l_draw, .func (PySem.W.fnOf "_law_draw" "_law_draw" (defArgs st_l_draw) (defBody st_l_draw) (defScope st_l_draw) .none kV_l_draw dc_l_draw pm_l_draw an_l_draw cd_l_draw ct_l_draw), sl_l_draw⟩)
    (c_l_draw : PySem.W.codeIn K cd_l_draw "_law_draw" = true)
    (k_l_draw : PySem.W.keepIn K (.ref f_l_draw) = true)
    (a_l_given : PySem.W.nsIn K mainGlobals "_law_given" = some (some (.ref f_l_given)))
    (l_l_given : K.lookup f_l_given = some ⟨oc_l_given, od_l_given, .func (PySem.W.fnOf "_law_given" "_law_given" (defArgs st_l_given) (defBody st_l_given) (defScope st_l_given) .none kV_l_given dc_l_given pm_l_given an_l_given cd_l_given ct_l_given), sl_l_given⟩)
    (c_l_given : PySem.W.codeIn K cd_l_given "_law_given" = true)
    (k_l_given : PySem.W.keepIn K (.ref f_l_given) = true)
    (a_l_index : PySem.W.nsIn K mainGlobals "_law_index" = some (some (.ref f_l_index)))
    (l_l_index : K.lookup f_l_index = some ⟨oc_l_index, od_l_index, .func (PySem.W.fnOf "_law_index" "_law_index" (defArgs st_l_index) (defBody st_l_index) (defScope st_l_index) .none kV_l_index dc_l_index pm_l_index an_l_index cd_l_index ct_l_index), sl_l_index⟩)
    (c_l_index : PySem.W.codeIn K cd_l_index "_law_index" = true)
    (k_l_index : PySem.W.keepIn K (.ref f_l_index) = true)
    (a_l_flags : PySem.W.nsIn K mainGlobals "_law_flags" = some (some (.ref f_l_flags)))
    (l_l_flags : K.lookup f_l_flags = some ⟨oc_l_flags, od_l_flags, .func (PySem.W.fnOf "_law_flags" "_law_flags" (defArgs st_l_flags) (defBody st_l_flags) (defScope st_l_flags) .none kV_l_flags dc_l_flags pm_l_flags an_l_flags cd_l_flags ct_l_flags), sl_l_flags⟩)
    (c_l_flags : PySem.W.codeIn K cd_l_flags "_law_flags" = true)
    (k_l_flags : PySem.W.keepIn K (.ref f_l_flags) = true)
    (a_l_bases : PySem.W.nsIn K mainGlobals "_law_bases" = some (some (.ref f_l_bases)))
    (l_l_bases : K.lookup f_l_bases = some ⟨oc_l_bases, od_l_bases, .func (PySem.W.fnOf "_law_bases" "_law_bases" (defArgs st_l_bases) (defBody st_l_bases) (defScope st_l_bases) .none kV_l_bases dc_l_bases pm_l_bases an_l_bases cd_l_bases ct_l_bases), sl_l_bases⟩)
    (c_l_bases : PySem.W.codeIn K cd_l_bases "_law_bases" = true)
    (k_l_bases : PySem.W.keepIn K (.ref f_l_bases) = true)
    (a_l_thing : PySem.W.nsIn K mainGlobals "_law_thing" = some (some (.ref f_l_thing)))
    (l_l_thing : K.lookup f_l_thing = some ⟨oc_l_thing, od_l_thing, .func (PySem.W.fnOf "_law_thing" "_law_thing" (defArgs st_l_thing) (defBody st_l_thing) (defScope st_l_thing) .none kV_l_thing dc_l_thing pm_l_thing an_l_thing cd_l_thing ct_l_thing), sl_l_thing⟩)
    (c_l_thing : PySem.W.codeIn K cd_l_thing "_law_thing" = true)
    (k_l_thing : PySem.W.keepIn K (.ref f_l_thing) = true)
    (a_l_right : PySem.W.nsIn K mainGlobals "_law_right" = some (some (.ref f_l_right)))
    (l_l_right : K.lookup f_l_right = some ⟨oc_l_right, od_l_right, .func (PySem.W.fnOf "_law_right" "_law_right" (defArgs st_l_right) (defBody st_l_right) (defScope st_l_right) .none kV_l_right dc_l_right pm_l_right an_l_right cd_l_right ct_l_right), sl_l_right⟩)
    (c_l_right : PySem.W.codeIn K cd_l_right "_law_right" = true)
    (k_l_right : PySem.W.keepIn K (.ref f_l_right) = true)
    (a_law : PySem.W.nsIn K mainGlobals "law" = some (some (.ref f_law)))
    (l_law : K.lookup f_law = some ⟨oc_law, od_law, .func (PySem.W.fnOf "law" "law" (defArgs st_law) (defBody st_law) (defScope st_law) .none kV_law dc_law pm_law an_law cd_law ct_law), sl_law⟩)
    (c_law : PySem.W.codeIn K cd_law "law" = true)
    (k_law : PySem.W.keepIn K (.ref f_law) = true)
    (v_MOST_THINGS : PySem.W.nsIn K mainGlobals "MOST_THINGS" = some (some (.int 10 t_MOST_THINGS)))
    (v_MOST_PEOPLE : PySem.W.nsIn K mainGlobals "MOST_PEOPLE" = some (some (.int 24 t_MOST_PEOPLE)))
    (v_MOST_LOOKS : PySem.W.nsIn K mainGlobals "MOST_LOOKS" = some (some (.int 12 t_MOST_LOOKS)))
    (v_TABLE_THINGS : PySem.W.nsIn K mainGlobals "TABLE_THINGS" = some (some (.int 5 t_TABLE_THINGS)))
    (z_len : PySem.W.nsIn K mainGlobals "len" = some none)
    (z_isinstance : PySem.W.nsIn K mainGlobals "isinstance" = some none)
    (z_all : PySem.W.nsIn K mainGlobals "all" = some none)
    (z_enumerate : PySem.W.nsIn K mainGlobals "enumerate" = some none)
    (z_abs : PySem.W.nsIn K mainGlobals "abs" = some none)
    (z_int : PySem.W.nsIn K mainGlobals "int" = some none)
    (z_divmod : PySem.W.nsIn K mainGlobals "divmod" = some none)
    (z_range : PySem.W.nsIn K mainGlobals "range" = some none)
    (z_repr : PySem.W.nsIn K mainGlobals "repr" = some none)
    (z_max : PySem.W.nsIn K mainGlobals "max" = some none)
    (z_min : PySem.W.nsIn K mainGlobals "min" = some none)
    (z_ValueError : PySem.W.nsIn K mainGlobals "ValueError" = some none)
    (z_LookupError : PySem.W.nsIn K mainGlobals "LookupError" = some none)
    (z_ArithmeticError : PySem.W.nsIn K mainGlobals "ArithmeticError" = some none) : ∃ T : Tx K mg, T.a_law = fa := by
  have e := hfa.symm.trans (PySem.W.mg_of X G a_law)
  cases e
  exact ⟨{
    E_WrongValue := E_WrongValue
    g_WrongValue := PySem.W.mg_of X G eg_WrongValue
    E_InvalidText := E_InvalidText
    g_InvalidText := PySem.W.mg_of X G eg_InvalidText
    E_InvalidMarks := E_InvalidMarks
    g_InvalidMarks := PySem.W.mg_of X G eg_InvalidMarks
    E_InvalidIndex := E_InvalidIndex
    g_InvalidIndex := PySem.W.mg_of X G eg_InvalidIndex
    E_InvalidWord := E_InvalidWord
    g_InvalidWord := PySem.W.mg_of X G eg_InvalidWord
    E_NotARanking := E_NotARanking
    g_NotARanking := PySem.W.mg_of X G eg_NotARanking
    E_NotAHouse := E_NotAHouse
    g_NotAHouse := PySem.W.mg_of X G eg_NotAHouse
    E_NotALook := E_NotALook
    g_NotALook := PySem.W.mg_of X G eg_NotALook
    E_NotLooks := E_NotLooks
    g_NotLooks := PySem.W.mg_of X G eg_NotLooks
    E_OtherThings := E_OtherThings
    g_OtherThings := PySem.W.mg_of X G eg_OtherThings
    E_InvalidRow := E_InvalidRow
    g_InvalidRow := PySem.W.mg_of X G eg_InvalidRow
    E_InvalidMenu := E_InvalidMenu
    g_InvalidMenu := PySem.W.mg_of X G eg_InvalidMenu
    E_InvalidThings := E_InvalidThings
    g_InvalidThings := PySem.W.mg_of X G eg_InvalidThings
    E_InvalidTaken := E_InvalidTaken
    g_InvalidTaken := PySem.W.mg_of X G eg_InvalidTaken
    E_InvalidRankings := E_InvalidRankings
    g_InvalidRankings := PySem.W.mg_of X G eg_InvalidRankings
    E_InvalidLooks := E_InvalidLooks
    g_InvalidLooks := PySem.W.mg_of X G eg_InvalidLooks
    E_InvalidTable := E_InvalidTable
    g_InvalidTable := PySem.W.mg_of X G eg_InvalidTable
    E_WrongName := E_WrongName
    g_WrongName := PySem.W.mg_of X G eg_WrongName
    E_UnknownThing := E_UnknownThing
    g_UnknownThing := PySem.W.mg_of X G eg_UnknownThing
    E_NoAnswer := E_NoAnswer
    g_NoAnswer := PySem.W.mg_of X G eg_NoAnswer
    E_TooMany := E_TooMany
    g_TooMany := PySem.W.mg_of X G eg_TooMany
    E_NoHouse := E_NoHouse
    g_NoHouse := PySem.W.mg_of X G eg_NoHouse
    E_NoTable := E_NoTable
    g_NoTable := PySem.W.mg_of X G eg_NoTable
    E_Clash := E_Clash
    g_Clash := PySem.W.mg_of X G eg_Clash
    E_Broken := E_Broken
    g_Broken := PySem.W.mg_of X G eg_Broken
    E_NothingToUndo := E_NothingToUndo
    g_NothingToUndo := PySem.W.mg_of X G eg_NothingToUndo
    ox_InvalidText := ⟨⟨_, _, _, _, _, _, _, _, _, _, _, _, _, _, _, xl_InvalidText, xr_InvalidText⟩, PySem.F.excBase_ValueError, PySem.F.store_ValueError, xs_InvalidText, xx_InvalidText, xt_InvalidText, xk_InvalidText⟩
    ek_InvalidText := ⟨xcl_InvalidText, xga_InvalidText, xgg_InvalidText, xx_InvalidText, xhd_InvalidText, xca_InvalidText, xcb_InvalidText, xcc_InvalidText, xob_InvalidText⟩
    no_InvalidText_given := xn_InvalidText
    ox_InvalidMarks := ⟨⟨_, _, _, _, _, _, _, _, _, _, _, _, _, _, _, xl_InvalidMarks, xr_InvalidMarks⟩, PySem.F.excBase_ValueError, PySem.F.store_ValueError, xs_InvalidMarks, xx_InvalidMarks, xt_InvalidMarks, xk_InvalidMarks⟩
    ek_InvalidMarks := ⟨xcl_InvalidMarks, xga_InvalidMarks, xgg_InvalidMarks, xx_InvalidMarks, xhd_InvalidMarks, xca_InvalidMarks, xcb_InvalidMarks, xcc_InvalidMarks, xob_InvalidMarks⟩
    no_InvalidMarks_given := xn_InvalidMarks
    ox_InvalidIndex := ⟨⟨_, _, _, _, _, _, _, _, _, _, _, _, _, _, _, xl_InvalidIndex, xr_InvalidIndex⟩, PySem.F.excBase_ValueError, PySem.F.store_ValueError, xs_InvalidIndex, xx_InvalidIndex, xt_InvalidIndex, xk_InvalidIndex⟩
    ek_InvalidIndex := ⟨xcl_InvalidIndex, xga_InvalidIndex, xgg_InvalidIndex, xx_InvalidIndex, xhd_InvalidIndex, xca_InvalidIndex, xcb_InvalidIndex, xcc_InvalidIndex, xob_InvalidIndex⟩
    no_InvalidIndex_given := xn_InvalidIndex
    ox_InvalidWord := ⟨⟨_, _, _, _, _, _, _, _, _, _, _, _, _, _, _, xl_InvalidWord, xr_InvalidWord⟩, PySem.F.excBase_ValueError, PySem.F.store_ValueError, xs_InvalidWord, xx_InvalidWord, xt_InvalidWord, xk_InvalidWord⟩
    ek_InvalidWord := ⟨xcl_InvalidWord, xga_InvalidWord, xgg_InvalidWord, xx_InvalidWord, xhd_InvalidWord, xca_InvalidWord, xcb_InvalidWord, xcc_InvalidWord, xob_InvalidWord⟩
    no_InvalidWord_given := xn_InvalidWord
    ox_NotARanking := ⟨⟨_, _, _, _, _, _, _, _, _, _, _, _, _, _, _, xl_NotARanking, xr_NotARanking⟩, PySem.F.excBase_ValueError, PySem.F.store_ValueError, xs_NotARanking, xx_NotARanking, xt_NotARanking, xk_NotARanking⟩
    ek_NotARanking := ⟨xcl_NotARanking, xga_NotARanking, xgg_NotARanking, xx_NotARanking, xhd_NotARanking, xca_NotARanking, xcb_NotARanking, xcc_NotARanking, xob_NotARanking⟩
    no_NotARanking_given := xn_NotARanking
    ox_NotAHouse := ⟨⟨_, _, _, _, _, _, _, _, _, _, _, _, _, _, _, xl_NotAHouse, xr_NotAHouse⟩, PySem.F.excBase_ValueError, PySem.F.store_ValueError, xs_NotAHouse, xx_NotAHouse, xt_NotAHouse, xk_NotAHouse⟩
    ek_NotAHouse := ⟨xcl_NotAHouse, xga_NotAHouse, xgg_NotAHouse, xx_NotAHouse, xhd_NotAHouse, xca_NotAHouse, xcb_NotAHouse, xcc_NotAHouse, xob_NotAHouse⟩
    no_NotAHouse_given := xn_NotAHouse
    ox_NotALook := ⟨⟨_, _, _, _, _, _, _, _, _, _, _, _, _, _, _, xl_NotALook, xr_NotALook⟩, PySem.F.excBase_ValueError, PySem.F.store_ValueError, xs_NotALook, xx_NotALook, xt_NotALook, xk_NotALook⟩
    ek_NotALook := ⟨xcl_NotALook, xga_NotALook, xgg_NotALook, xx_NotALook, xhd_NotALook, xca_NotALook, xcb_NotALook, xcc_NotALook, xob_NotALook⟩
    no_NotALook_given := xn_NotALook
    ox_NotLooks := ⟨⟨_, _, _, _, _, _, _, _, _, _, _, _, _, _, _, xl_NotLooks, xr_NotLooks⟩, PySem.F.excBase_ValueError, PySem.F.store_ValueError, xs_NotLooks, xx_NotLooks, xt_NotLooks, xk_NotLooks⟩
    ek_NotLooks := ⟨xcl_NotLooks, xga_NotLooks, xgg_NotLooks, xx_NotLooks, xhd_NotLooks, xca_NotLooks, xcb_NotLooks, xcc_NotLooks, xob_NotLooks⟩
    no_NotLooks_given := xn_NotLooks
    ox_OtherThings := ⟨⟨_, _, _, _, _, _, _, _, _, _, _, _, _, _, _, xl_OtherThings, xr_OtherThings⟩, PySem.F.excBase_ValueError, PySem.F.store_ValueError, xs_OtherThings, xx_OtherThings, xt_OtherThings, xk_OtherThings⟩
    ek_OtherThings := ⟨xcl_OtherThings, xga_OtherThings, xgg_OtherThings, xx_OtherThings, xhd_OtherThings, xca_OtherThings, xcb_OtherThings, xcc_OtherThings, xob_OtherThings⟩
    no_OtherThings_given := xn_OtherThings
    ox_UnknownThing := ⟨⟨_, _, _, _, _, _, _, _, _, _, _, _, _, _, _, xl_UnknownThing, xr_UnknownThing⟩, PySem.F.excBase_LookupError, PySem.F.store_LookupError, xs_UnknownThing, xx_UnknownThing, xt_UnknownThing, xk_UnknownThing⟩
    ek_UnknownThing := ⟨xcl_UnknownThing, xga_UnknownThing, xgg_UnknownThing, xx_UnknownThing, xhd_UnknownThing, xca_UnknownThing, xcb_UnknownThing, xcc_UnknownThing, xob_UnknownThing⟩
    no_UnknownThing_given := xn_UnknownThing
    ox_InvalidRow := ⟨⟨_, _, _, _, _, _, _, _, _, _, _, _, _, _, _, xl_InvalidRow, xr_InvalidRow⟩, PySem.F.excBase_ValueError, PySem.F.store_ValueError, xs_InvalidRow, xx_InvalidRow, xt_InvalidRow, xk_InvalidRow⟩
    ek_InvalidRow := ⟨xcl_InvalidRow, xga_InvalidRow, xgg_InvalidRow, xx_InvalidRow, xhd_InvalidRow, xca_InvalidRow, xcb_InvalidRow, xcc_InvalidRow, xob_InvalidRow⟩
    no_InvalidRow_index := xn_InvalidRow
    ox_InvalidMenu := ⟨⟨_, _, _, _, _, _, _, _, _, _, _, _, _, _, _, xl_InvalidMenu, xr_InvalidMenu⟩, PySem.F.excBase_ValueError, PySem.F.store_ValueError, xs_InvalidMenu, xx_InvalidMenu, xt_InvalidMenu, xk_InvalidMenu⟩
    ek_InvalidMenu := ⟨xcl_InvalidMenu, xga_InvalidMenu, xgg_InvalidMenu, xx_InvalidMenu, xhd_InvalidMenu, xca_InvalidMenu, xcb_InvalidMenu, xcc_InvalidMenu, xob_InvalidMenu⟩
    no_InvalidMenu_index := xn_InvalidMenu
    ox_InvalidThings := ⟨⟨_, _, _, _, _, _, _, _, _, _, _, _, _, _, _, xl_InvalidThings, xr_InvalidThings⟩, PySem.F.excBase_ValueError, PySem.F.store_ValueError, xs_InvalidThings, xx_InvalidThings, xt_InvalidThings, xk_InvalidThings⟩
    ek_InvalidThings := ⟨xcl_InvalidThings, xga_InvalidThings, xgg_InvalidThings, xx_InvalidThings, xhd_InvalidThings, xca_InvalidThings, xcb_InvalidThings, xcc_InvalidThings, xob_InvalidThings⟩
    no_InvalidThings_index := xn_InvalidThings
    ox_InvalidTaken := ⟨⟨_, _, _, _, _, _, _, _, _, _, _, _, _, _, _, xl_InvalidTaken, xr_InvalidTaken⟩, PySem.F.excBase_ValueError, PySem.F.store_ValueError, xs_InvalidTaken, xx_InvalidTaken, xt_InvalidTaken, xk_InvalidTaken⟩
    ek_InvalidTaken := ⟨xcl_InvalidTaken, xga_InvalidTaken, xgg_InvalidTaken, xx_InvalidTaken, xhd_InvalidTaken, xca_InvalidTaken, xcb_InvalidTaken, xcc_InvalidTaken, xob_InvalidTaken⟩
    no_InvalidTaken_index := xn_InvalidTaken
    ox_InvalidRankings := ⟨⟨_, _, _, _, _, _, _, _, _, _, _, _, _, _, _, xl_InvalidRankings, xr_InvalidRankings⟩, PySem.F.excBase_ValueError, PySem.F.store_ValueError, xs_InvalidRankings, xx_InvalidRankings, xt_InvalidRankings, xk_InvalidRankings⟩
    ek_InvalidRankings := ⟨xcl_InvalidRankings, xga_InvalidRankings, xgg_InvalidRankings, xx_InvalidRankings, xhd_InvalidRankings, xca_InvalidRankings, xcb_InvalidRankings, xcc_InvalidRankings, xob_InvalidRankings⟩
    no_InvalidRankings_index := xn_InvalidRankings
    ox_InvalidLooks := ⟨⟨_, _, _, _, _, _, _, _, _, _, _, _, _, _, _, xl_InvalidLooks, xr_InvalidLooks⟩, PySem.F.excBase_ValueError, PySem.F.store_ValueError, xs_InvalidLooks, xx_InvalidLooks, xt_InvalidLooks, xk_InvalidLooks⟩
    ek_InvalidLooks := ⟨xcl_InvalidLooks, xga_InvalidLooks, xgg_InvalidLooks, xx_InvalidLooks, xhd_InvalidLooks, xca_InvalidLooks, xcb_InvalidLooks, xcc_InvalidLooks, xob_InvalidLooks⟩
    no_InvalidLooks_index := xn_InvalidLooks
    ox_InvalidTable := ⟨⟨_, _, _, _, _, _, _, _, _, _, _, _, _, _, _, xl_InvalidTable, xr_InvalidTable⟩, PySem.F.excBase_ValueError, PySem.F.store_ValueError, xs_InvalidTable, xx_InvalidTable, xt_InvalidTable, xk_InvalidTable⟩
    ek_InvalidTable := ⟨xcl_InvalidTable, xga_InvalidTable, xgg_InvalidTable, xx_InvalidTable, xhd_InvalidTable, xca_InvalidTable, xcb_InvalidTable, xcc_InvalidTable, xob_InvalidTable⟩
    no_InvalidTable_index := xn_InvalidTable
    ox_Clash := ⟨⟨_, _, _, _, _, _, _, _, _, _, _, _, _, _, _, xl_Clash, xr_Clash⟩, PySem.F.excBase_ArithmeticError, PySem.F.store_ArithmeticError, xs_Clash, xx_Clash, xt_Clash, xk_Clash⟩
    ek_Clash := ⟨xcl_Clash, xga_Clash, xgg_Clash, xx_Clash, xhd_Clash, xca_Clash, xcb_Clash, xcc_Clash, xob_Clash⟩
    no_Clash_index := xn_Clash
    ox_Broken := ⟨⟨_, _, _, _, _, _, _, _, _, _, _, _, _, _, _, xl_Broken, xr_Broken⟩, PySem.F.excBase_ArithmeticError, PySem.F.store_ArithmeticError, xs_Broken, xx_Broken, xt_Broken, xk_Broken⟩
    ek_Broken := ⟨xcl_Broken, xga_Broken, xgg_Broken, xx_Broken, xhd_Broken, xca_Broken, xcb_Broken, xcc_Broken, xob_Broken⟩
    no_Broken_index := xn_Broken
    ox_TooMany := ⟨⟨_, _, _, _, _, _, _, _, _, _, _, _, _, _, _, xl_TooMany, xr_TooMany⟩, PySem.F.excBase_ArithmeticError, PySem.F.store_ArithmeticError, xs_TooMany, xx_TooMany, xt_TooMany, xk_TooMany⟩
    ek_TooMany := ⟨xcl_TooMany, xga_TooMany, xgg_TooMany, xx_TooMany, xhd_TooMany, xca_TooMany, xcb_TooMany, xcc_TooMany, xob_TooMany⟩
    no_TooMany_number := xn_TooMany
    ox_NoHouse := ⟨⟨_, _, _, _, _, _, _, _, _, _, _, _, _, _, _, xl_NoHouse, xr_NoHouse⟩, PySem.F.excBase_ArithmeticError, PySem.F.store_ArithmeticError, xs_NoHouse, xx_NoHouse, xt_NoHouse, xk_NoHouse⟩
    ek_NoHouse := ⟨xcl_NoHouse, xga_NoHouse, xgg_NoHouse, xx_NoHouse, xhd_NoHouse, xca_NoHouse, xcb_NoHouse, xcc_NoHouse, xob_NoHouse⟩
    no_NoHouse_menu := xn_NoHouse
    ox_NoTable := ⟨⟨_, _, _, _, _, _, _, _, _, _, _, _, _, _, _, xl_NoTable, xr_NoTable⟩, PySem.F.excBase_ArithmeticError, PySem.F.store_ArithmeticError, xs_NoTable, xx_NoTable, xt_NoTable, xk_NoTable⟩
    ek_NoTable := ⟨xcl_NoTable, xga_NoTable, xgg_NoTable, xx_NoTable, xhd_NoTable, xca_NoTable, xcb_NoTable, xcc_NoTable, xob_NoTable⟩
    no_NoTable_first := xn_NoTable
    no_NoTable_second := xn_NoTable_second
    ox_NothingToUndo := ⟨⟨_, _, _, _, _, _, _, _, _, _, _, _, _, _, _, xl_NothingToUndo, xr_NothingToUndo⟩, PySem.F.excBase_ArithmeticError, PySem.F.store_ArithmeticError, xs_NothingToUndo, xx_NothingToUndo, xt_NothingToUndo, xk_NothingToUndo⟩
    ek_NothingToUndo := ⟨xcl_NothingToUndo, xga_NothingToUndo, xgg_NothingToUndo, xx_NothingToUndo, xhd_NothingToUndo, xca_NothingToUndo, xcb_NothingToUndo, xcc_NothingToUndo, xob_NothingToUndo⟩
    xi_NothingToUndo := xi_NothingToUndo
    kt_InvalidText := kt_InvalidText
    kt_InvalidMarks := kt_InvalidMarks
    kt_InvalidIndex := kt_InvalidIndex
    kt_InvalidWord := kt_InvalidWord
    kt_NotARanking := kt_NotARanking
    kt_NotAHouse := kt_NotAHouse
    kt_NotALook := kt_NotALook
    kt_NotLooks := kt_NotLooks
    kt_OtherThings := kt_OtherThings
    kt_UnknownThing := kt_UnknownThing
    kt_InvalidRow := kt_InvalidRow
    kt_InvalidMenu := kt_InvalidMenu
    kt_InvalidThings := kt_InvalidThings
    kt_InvalidTaken := kt_InvalidTaken
    kt_InvalidRankings := kt_InvalidRankings
    kt_InvalidLooks := kt_InvalidLooks
    kt_InvalidTable := kt_InvalidTable
    kt_Clash := kt_Clash
    kt_Broken := kt_Broken
    kt_TooMany := kt_TooMany
    kt_NoHouse := kt_NoHouse
    kt_NoTable := kt_NoTable
    kt_NothingToUndo := kt_NothingToUndo
    a_InvalidTextD_initD := f_InvalidTextD_initD
    fd_InvalidTextD_initD := _
    F_InvalidTextD_initD := fun_mk (st := st_InvalidTextD_initD) l_InvalidTextD_initD c_InvalidTextD_initD k_InvalidTextD_initD
    b_InvalidTextD_initD := (fun_mk (st := st_InvalidTextD_initD) l_InvalidTextD_initD c_InvalidTextD_initD k_InvalidTextD_initD).binds (ps := ["self", "given"]) fun _ _ _ _ _ _ us hl => match us, hl with | [_, _], _ => rfl
    ic_InvalidText := a_InvalidTextD_initD
    ti_InvalidText := ti_InvalidTextD_initD
    kb_InvalidTextD_initD := ⟨fun _ us ws _ l1 l2 => match us, l1, ws, l2 with | [_], _, [_], _ => .of_eq rfl, fun r1 r2 => r1.append r2⟩
    a_InvalidMarksD_initD := f_InvalidMarksD_initD
    fd_InvalidMarksD_initD := _
    F_InvalidMarksD_initD := fun_mk (st := st_InvalidMarksD_initD) l_InvalidMarksD_initD c_InvalidMarksD_initD k_InvalidMarksD_initD
    b_InvalidMarksD_initD := (fun_mk (st := st_InvalidMarksD_initD) l_InvalidMarksD_initD c_InvalidMarksD_initD k_InvalidMarksD_initD).binds (ps := ["self", "given"]) fun _ _ _ _ _ _ us hl => match us, hl with | [_, _], _ => rfl
    ic_InvalidMarks := a_InvalidMarksD_initD
    ti_InvalidMarks := ti_InvalidMarksD_initD
    kb_InvalidMarksD_initD := ⟨fun _ us ws _ l1 l2 => match us, l1, ws, l2 with | [_], _, [_], _ => .of_eq rfl, fun r1 r2 => r1.append r2⟩
    a_InvalidIndexD_initD := f_InvalidIndexD_initD
    fd_InvalidIndexD_initD := _
    F_InvalidIndexD_initD := fun_mk (st := st_InvalidIndexD_initD) l_InvalidIndexD_initD c_InvalidIndexD_initD k_InvalidIndexD_initD
    b_InvalidIndexD_initD := (fun_mk (st := st_InvalidIndexD_initD) l_InvalidIndexD_initD c_InvalidIndexD_initD k_InvalidIndexD_initD).binds (ps := ["self", "given"]) fun _ _ _ _ _ _ us hl => match us, hl with | [_, _], _ => rfl
    ic_InvalidIndex := a_InvalidIndexD_initD
    ti_InvalidIndex := ti_InvalidIndexD_initD
    kb_InvalidIndexD_initD := ⟨fun _ us ws _ l1 l2 => match us, l1, ws, l2 with | [_], _, [_], _ => .of_eq rfl, fun r1 r2 => r1.append r2⟩
    a_InvalidWordD_initD := f_InvalidWordD_initD
    fd_InvalidWordD_initD := _
    F_InvalidWordD_initD := fun_mk (st := st_InvalidWordD_initD) l_InvalidWordD_initD c_InvalidWordD_initD k_InvalidWordD_initD
    b_InvalidWordD_initD := (fun_mk (st := st_InvalidWordD_initD) l_InvalidWordD_initD c_InvalidWordD_initD k_InvalidWordD_initD).binds (ps := ["self", "given"]) fun _ _ _ _ _ _ us hl => match us, hl with | [_, _], _ => rfl
    ic_InvalidWord := a_InvalidWordD_initD
    ti_InvalidWord := ti_InvalidWordD_initD
    kb_InvalidWordD_initD := ⟨fun _ us ws _ l1 l2 => match us, l1, ws, l2 with | [_], _, [_], _ => .of_eq rfl, fun r1 r2 => r1.append r2⟩
    a_NotARankingD_initD := f_NotARankingD_initD
    fd_NotARankingD_initD := _
    F_NotARankingD_initD := fun_mk (st := st_NotARankingD_initD) l_NotARankingD_initD c_NotARankingD_initD k_NotARankingD_initD
    b_NotARankingD_initD := (fun_mk (st := st_NotARankingD_initD) l_NotARankingD_initD c_NotARankingD_initD k_NotARankingD_initD).binds (ps := ["self", "given"]) fun _ _ _ _ _ _ us hl => match us, hl with | [_, _], _ => rfl
    ic_NotARanking := a_NotARankingD_initD
    ti_NotARanking := ti_NotARankingD_initD
    kb_NotARankingD_initD := ⟨fun _ us ws _ l1 l2 => match us, l1, ws, l2 with | [_], _, [_], _ => .of_eq rfl, fun r1 r2 => r1.append r2⟩
    a_NotAHouseD_initD := f_NotAHouseD_initD
    fd_NotAHouseD_initD := _
    F_NotAHouseD_initD := fun_mk (st := st_NotAHouseD_initD) l_NotAHouseD_initD c_NotAHouseD_initD k_NotAHouseD_initD
    b_NotAHouseD_initD := (fun_mk (st := st_NotAHouseD_initD) l_NotAHouseD_initD c_NotAHouseD_initD k_NotAHouseD_initD).binds (ps := ["self", "given"]) fun _ _ _ _ _ _ us hl => match us, hl with | [_, _], _ => rfl
    ic_NotAHouse := a_NotAHouseD_initD
    ti_NotAHouse := ti_NotAHouseD_initD
    kb_NotAHouseD_initD := ⟨fun _ us ws _ l1 l2 => match us, l1, ws, l2 with | [_], _, [_], _ => .of_eq rfl, fun r1 r2 => r1.append r2⟩
    a_NotALookD_initD := f_NotALookD_initD
    fd_NotALookD_initD := _
    F_NotALookD_initD := fun_mk (st := st_NotALookD_initD) l_NotALookD_initD c_NotALookD_initD k_NotALookD_initD
    b_NotALookD_initD := (fun_mk (st := st_NotALookD_initD) l_NotALookD_initD c_NotALookD_initD k_NotALookD_initD).binds (ps := ["self", "given"]) fun _ _ _ _ _ _ us hl => match us, hl with | [_, _], _ => rfl
    ic_NotALook := a_NotALookD_initD
    ti_NotALook := ti_NotALookD_initD
    kb_NotALookD_initD := ⟨fun _ us ws _ l1 l2 => match us, l1, ws, l2 with | [_], _, [_], _ => .of_eq rfl, fun r1 r2 => r1.append r2⟩
    a_NotLooksD_initD := f_NotLooksD_initD
    fd_NotLooksD_initD := _
    F_NotLooksD_initD := fun_mk (st := st_NotLooksD_initD) l_NotLooksD_initD c_NotLooksD_initD k_NotLooksD_initD
    b_NotLooksD_initD := (fun_mk (st := st_NotLooksD_initD) l_NotLooksD_initD c_NotLooksD_initD k_NotLooksD_initD).binds (ps := ["self", "given"]) fun _ _ _ _ _ _ us hl => match us, hl with | [_, _], _ => rfl
    ic_NotLooks := a_NotLooksD_initD
    ti_NotLooks := ti_NotLooksD_initD
    kb_NotLooksD_initD := ⟨fun _ us ws _ l1 l2 => match us, l1, ws, l2 with | [_], _, [_], _ => .of_eq rfl, fun r1 r2 => r1.append r2⟩
    a_OtherThingsD_initD := f_OtherThingsD_initD
    fd_OtherThingsD_initD := _
    F_OtherThingsD_initD := fun_mk (st := st_OtherThingsD_initD) l_OtherThingsD_initD c_OtherThingsD_initD k_OtherThingsD_initD
    b_OtherThingsD_initD := (fun_mk (st := st_OtherThingsD_initD) l_OtherThingsD_initD c_OtherThingsD_initD k_OtherThingsD_initD).binds (ps := ["self", "given"]) fun _ _ _ _ _ _ us hl => match us, hl with | [_, _], _ => rfl
    ic_OtherThings := a_OtherThingsD_initD
    ti_OtherThings := ti_OtherThingsD_initD
    kb_OtherThingsD_initD := ⟨fun _ us ws _ l1 l2 => match us, l1, ws, l2 with | [_], _, [_], _ => .of_eq rfl, fun r1 r2 => r1.append r2⟩
    a_UnknownThingD_initD := f_UnknownThingD_initD
    fd_UnknownThingD_initD := _
    F_UnknownThingD_initD := fun_mk (st := st_UnknownThingD_initD) l_UnknownThingD_initD c_UnknownThingD_initD k_UnknownThingD_initD
    b_UnknownThingD_initD := (fun_mk (st := st_UnknownThingD_initD) l_UnknownThingD_initD c_UnknownThingD_initD k_UnknownThingD_initD).binds (ps := ["self", "given"]) fun _ _ _ _ _ _ us hl => match us, hl with | [_, _], _ => rfl
    ic_UnknownThing := a_UnknownThingD_initD
    ti_UnknownThing := ti_UnknownThingD_initD
    kb_UnknownThingD_initD := ⟨fun _ us ws _ l1 l2 => match us, l1, ws, l2 with | [_], _, [_], _ => .of_eq rfl, fun r1 r2 => r1.append r2⟩
    a_InvalidRowD_initD := f_InvalidRowD_initD
    fd_InvalidRowD_initD := _
    F_InvalidRowD_initD := fun_mk (st := st_InvalidRowD_initD) l_InvalidRowD_initD c_InvalidRowD_initD k_InvalidRowD_initD
    b_InvalidRowD_initD := (fun_mk (st := st_InvalidRowD_initD) l_InvalidRowD_initD c_InvalidRowD_initD k_InvalidRowD_initD).binds (ps := ["self", "index"]) fun _ _ _ _ _ _ us hl => match us, hl with | [_, _], _ => rfl
    ic_InvalidRow := a_InvalidRowD_initD
    ti_InvalidRow := ti_InvalidRowD_initD
    kb_InvalidRowD_initD := ⟨fun _ us ws _ l1 l2 => match us, l1, ws, l2 with | [_], _, [_], _ => .of_eq rfl, fun r1 r2 => r1.append r2⟩
    a_InvalidMenuD_initD := f_InvalidMenuD_initD
    fd_InvalidMenuD_initD := _
    F_InvalidMenuD_initD := fun_mk (st := st_InvalidMenuD_initD) l_InvalidMenuD_initD c_InvalidMenuD_initD k_InvalidMenuD_initD
    b_InvalidMenuD_initD := (fun_mk (st := st_InvalidMenuD_initD) l_InvalidMenuD_initD c_InvalidMenuD_initD k_InvalidMenuD_initD).binds (ps := ["self", "index"]) fun _ _ _ _ _ _ us hl => match us, hl with | [_, _], _ => rfl
    ic_InvalidMenu := a_InvalidMenuD_initD
    ti_InvalidMenu := ti_InvalidMenuD_initD
    kb_InvalidMenuD_initD := ⟨fun _ us ws _ l1 l2 => match us, l1, ws, l2 with | [_], _, [_], _ => .of_eq rfl, fun r1 r2 => r1.append r2⟩
    a_InvalidThingsD_initD := f_InvalidThingsD_initD
    fd_InvalidThingsD_initD := _
    F_InvalidThingsD_initD := fun_mk (st := st_InvalidThingsD_initD) l_InvalidThingsD_initD c_InvalidThingsD_initD k_InvalidThingsD_initD
    b_InvalidThingsD_initD := (fun_mk (st := st_InvalidThingsD_initD) l_InvalidThingsD_initD c_InvalidThingsD_initD k_InvalidThingsD_initD).binds (ps := ["self", "index"]) fun _ _ _ _ _ _ us hl => match us, hl with | [_, _], _ => rfl
    ic_InvalidThings := a_InvalidThingsD_initD
    ti_InvalidThings := ti_InvalidThingsD_initD
    kb_InvalidThingsD_initD := ⟨fun _ us ws _ l1 l2 => match us, l1, ws, l2 with | [_], _, [_], _ => .of_eq rfl, fun r1 r2 => r1.append r2⟩
    a_InvalidTakenD_initD := f_InvalidTakenD_initD
    fd_InvalidTakenD_initD := _
    F_InvalidTakenD_initD := fun_mk (st := st_InvalidTakenD_initD) l_InvalidTakenD_initD c_InvalidTakenD_initD k_InvalidTakenD_initD
    b_InvalidTakenD_initD := (fun_mk (st := st_InvalidTakenD_initD) l_InvalidTakenD_initD c_InvalidTakenD_initD k_InvalidTakenD_initD).binds (ps := ["self", "index"]) fun _ _ _ _ _ _ us hl => match us, hl with | [_, _], _ => rfl
    ic_InvalidTaken := a_InvalidTakenD_initD
    ti_InvalidTaken := ti_InvalidTakenD_initD
    kb_InvalidTakenD_initD := ⟨fun _ us ws _ l1 l2 => match us, l1, ws, l2 with | [_], _, [_], _ => .of_eq rfl, fun r1 r2 => r1.append r2⟩
    a_InvalidRankingsD_initD := f_InvalidRankingsD_initD
    fd_InvalidRankingsD_initD := _
    F_InvalidRankingsD_initD := fun_mk (st := st_InvalidRankingsD_initD) l_InvalidRankingsD_initD c_InvalidRankingsD_initD k_InvalidRankingsD_initD
    b_InvalidRankingsD_initD := (fun_mk (st := st_InvalidRankingsD_initD) l_InvalidRankingsD_initD c_InvalidRankingsD_initD k_InvalidRankingsD_initD).binds (ps := ["self", "index"]) fun _ _ _ _ _ _ us hl => match us, hl with | [_, _], _ => rfl
    ic_InvalidRankings := a_InvalidRankingsD_initD
    ti_InvalidRankings := ti_InvalidRankingsD_initD
    kb_InvalidRankingsD_initD := ⟨fun _ us ws _ l1 l2 => match us, l1, ws, l2 with | [_], _, [_], _ => .of_eq rfl, fun r1 r2 => r1.append r2⟩
    a_InvalidLooksD_initD := f_InvalidLooksD_initD
    fd_InvalidLooksD_initD := _
    F_InvalidLooksD_initD := fun_mk (st := st_InvalidLooksD_initD) l_InvalidLooksD_initD c_InvalidLooksD_initD k_InvalidLooksD_initD
    b_InvalidLooksD_initD := (fun_mk (st := st_InvalidLooksD_initD) l_InvalidLooksD_initD c_InvalidLooksD_initD k_InvalidLooksD_initD).binds (ps := ["self", "index"]) fun _ _ _ _ _ _ us hl => match us, hl with | [_, _], _ => rfl
    ic_InvalidLooks := a_InvalidLooksD_initD
    ti_InvalidLooks := ti_InvalidLooksD_initD
    kb_InvalidLooksD_initD := ⟨fun _ us ws _ l1 l2 => match us, l1, ws, l2 with | [_], _, [_], _ => .of_eq rfl, fun r1 r2 => r1.append r2⟩
    a_InvalidTableD_initD := f_InvalidTableD_initD
    fd_InvalidTableD_initD := _
    F_InvalidTableD_initD := fun_mk (st := st_InvalidTableD_initD) l_InvalidTableD_initD c_InvalidTableD_initD k_InvalidTableD_initD
    b_InvalidTableD_initD := (fun_mk (st := st_InvalidTableD_initD) l_InvalidTableD_initD c_InvalidTableD_initD k_InvalidTableD_initD).binds (ps := ["self", "index"]) fun _ _ _ _ _ _ us hl => match us, hl with | [_, _], _ => rfl
    ic_InvalidTable := a_InvalidTableD_initD
    ti_InvalidTable := ti_InvalidTableD_initD
    kb_InvalidTableD_initD := ⟨fun _ us ws _ l1 l2 => match us, l1, ws, l2 with | [_], _, [_], _ => .of_eq rfl, fun r1 r2 => r1.append r2⟩
    a_ClashD_initD := f_ClashD_initD
    fd_ClashD_initD := _
    F_ClashD_initD := fun_mk (st := st_ClashD_initD) l_ClashD_initD c_ClashD_initD k_ClashD_initD
    b_ClashD_initD := (fun_mk (st := st_ClashD_initD) l_ClashD_initD c_ClashD_initD k_ClashD_initD).binds (ps := ["self", "index"]) fun _ _ _ _ _ _ us hl => match us, hl with | [_, _], _ => rfl
    ic_Clash := a_ClashD_initD
    ti_Clash := ti_ClashD_initD
    kb_ClashD_initD := ⟨fun _ us ws _ l1 l2 => match us, l1, ws, l2 with | [_], _, [_], _ => .of_eq rfl, fun r1 r2 => r1.append r2⟩
    a_BrokenD_initD := f_BrokenD_initD
    fd_BrokenD_initD := _
    F_BrokenD_initD := fun_mk (st := st_BrokenD_initD) l_BrokenD_initD c_BrokenD_initD k_BrokenD_initD
    b_BrokenD_initD := (fun_mk (st := st_BrokenD_initD) l_BrokenD_initD c_BrokenD_initD k_BrokenD_initD).binds (ps := ["self", "index"]) fun _ _ _ _ _ _ us hl => match us, hl with | [_, _], _ => rfl
    ic_Broken := a_BrokenD_initD
    ti_Broken := ti_BrokenD_initD
    kb_BrokenD_initD := ⟨fun _ us ws _ l1 l2 => match us, l1, ws, l2 with | [_], _, [_], _ => .of_eq rfl, fun r1 r2 => r1.append r2⟩
    a_TooManyD_initD := f_TooManyD_initD
    fd_TooManyD_initD := _
    F_TooManyD_initD := fun_mk (st := st_TooManyD_initD) l_TooManyD_initD c_TooManyD_initD k_TooManyD_initD
    b_TooManyD_initD := (fun_mk (st := st_TooManyD_initD) l_TooManyD_initD c_TooManyD_initD k_TooManyD_initD).binds (ps := ["self", "number"]) fun _ _ _ _ _ _ us hl => match us, hl with | [_, _], _ => rfl
    ic_TooMany := a_TooManyD_initD
    ti_TooMany := ti_TooManyD_initD
    kb_TooManyD_initD := ⟨fun _ us ws _ l1 l2 => match us, l1, ws, l2 with | [_], _, [_], _ => .of_eq rfl, fun r1 r2 => r1.append r2⟩
    a_NoHouseD_initD := f_NoHouseD_initD
    fd_NoHouseD_initD := _
    F_NoHouseD_initD := fun_mk (st := st_NoHouseD_initD) l_NoHouseD_initD c_NoHouseD_initD k_NoHouseD_initD
    b_NoHouseD_initD := (fun_mk (st := st_NoHouseD_initD) l_NoHouseD_initD c_NoHouseD_initD k_NoHouseD_initD).binds (ps := ["self", "menu"]) fun _ _ _ _ _ _ us hl => match us, hl with | [_, _], _ => rfl
    ic_NoHouse := a_NoHouseD_initD
    ti_NoHouse := ti_NoHouseD_initD
    kb_NoHouseD_initD := ⟨fun _ us ws _ l1 l2 => match us, l1, ws, l2 with | [_], _, [_], _ => .of_eq rfl, fun r1 r2 => r1.append r2⟩
    a_NoTableD_initD := f_NoTableD_initD
    fd_NoTableD_initD := _
    F_NoTableD_initD := fun_mk (st := st_NoTableD_initD) l_NoTableD_initD c_NoTableD_initD k_NoTableD_initD
    b_NoTableD_initD := (fun_mk (st := st_NoTableD_initD) l_NoTableD_initD c_NoTableD_initD k_NoTableD_initD).binds (ps := ["self", "first", "second"]) fun _ _ _ _ _ _ us hl => match us, hl with | [_, _, _], _ => rfl
    ic_NoTable := a_NoTableD_initD
    ti_NoTable := ti_NoTableD_initD
    kb_NoTableD_initD := ⟨fun _ us ws _ l1 l2 => match us, l1, ws, l2 with | [_], _, [_, _], _ => .of_eq rfl, fun r1 r2 => r1.append (vals_reverse r2)⟩
    a_l_purse := f_l_purse
    fd_l_purse := _
    F_l_purse := fun_mk (st := st_l_purse) l_l_purse c_l_purse k_l_purse
    b_l_purse := (fun_mk (st := st_l_purse) l_l_purse c_l_purse k_l_purse).binds (ps := ["_law_script", "_law_spot"]) fun _ _ _ _ _ _ us hl => match us, hl with | [_, _], _ => rfl
    g_l_purse := PySem.W.mg_of X G a_l_purse
    a_l_draw := f_l_draw
    fd_l_draw := _
    F_l_draw := fun_mk (st := st_l_draw) l_l_draw c_l_draw k_l_draw
    b_l_draw := (fun_mk (st := st_l_draw) l_l_draw c_l_draw k_l_draw).binds (ps := ["_law_purse_here", "_law_many"]) fun _ _ _ _ _ _ us hl => match us, hl with | [_, _], _ => rfl
    g_l_draw := PySem.W.mg_of X G a_l_draw
    a_l_given := f_l_given
    fd_l_given := _
    F_l_given := fun_mk (st := st_l_given) l_l_given c_l_given k_l_given
    b_l_given := (fun_mk (st := st_l_given) l_l_given c_l_given k_l_given).binds (ps := ["_law_one"]) fun _ _ _ _ _ _ us hl => match us, hl with | [_], _ => rfl
    g_l_given := PySem.W.mg_of X G a_l_given
    a_l_index := f_l_index
    fd_l_index := _
    F_l_index := fun_mk (st := st_l_index) l_l_index c_l_index k_l_index
    b_l_index := (fun_mk (st := st_l_index) l_l_index c_l_index k_l_index).binds (ps := ["_law_one"]) fun _ _ _ _ _ _ us hl => match us, hl with | [_], _ => rfl
    g_l_index := PySem.W.mg_of X G a_l_index
    a_l_flags := f_l_flags
    fd_l_flags := _
    F_l_flags := fun_mk (st := st_l_flags) l_l_flags c_l_flags k_l_flags
    b_l_flags := (fun_mk (st := st_l_flags) l_l_flags c_l_flags k_l_flags).binds (ps := ["_law_e"]) fun _ _ _ _ _ _ us hl => match us, hl with | [_], _ => rfl
    g_l_flags := PySem.W.mg_of X G a_l_flags
    a_l_bases := f_l_bases
    fd_l_bases := _
    F_l_bases := fun_mk (st := st_l_bases) l_l_bases c_l_bases k_l_bases
    b_l_bases := (fun_mk (st := st_l_bases) l_l_bases c_l_bases k_l_bases).binds (ps := ["_law_e"]) fun _ _ _ _ _ _ us hl => match us, hl with | [_], _ => rfl
    g_l_bases := PySem.W.mg_of X G a_l_bases
    a_l_thing := f_l_thing
    fd_l_thing := _
    F_l_thing := fun_mk (st := st_l_thing) l_l_thing c_l_thing k_l_thing
    b_l_thing := (fun_mk (st := st_l_thing) l_l_thing c_l_thing k_l_thing).binds (ps := ["_law_purse_here"]) fun _ _ _ _ _ _ us hl => match us, hl with | [_], _ => rfl
    g_l_thing := PySem.W.mg_of X G a_l_thing
    a_l_right := f_l_right
    fd_l_right := _
    F_l_right := fun_mk (st := st_l_right) l_l_right c_l_right k_l_right
    b_l_right := (fun_mk (st := st_l_right) l_l_right c_l_right k_l_right).binds (ps := ["_law_purse_here"]) fun _ _ _ _ _ _ us hl => match us, hl with | [_], _ => rfl
    g_l_right := PySem.W.mg_of X G a_l_right
    a_law := fa
    fd_law := _
    F_law := fun_mk (st := st_law) l_law c_law k_law
    b_law := (fun_mk (st := st_law) l_law c_law k_law).binds (ps := ["_law_script"]) fun _ _ _ _ _ _ us hl => match us, hl with | [_], _ => rfl
    g_law := PySem.W.mg_of X G a_law
    g_MOST_THINGS := ⟨_, PySem.W.mg_of X G v_MOST_THINGS⟩
    g_MOST_PEOPLE := ⟨_, PySem.W.mg_of X G v_MOST_PEOPLE⟩
    g_MOST_LOOKS := ⟨_, PySem.W.mg_of X G v_MOST_LOOKS⟩
    g_TABLE_THINGS := ⟨_, PySem.W.mg_of X G v_TABLE_THINGS⟩
    n_len := PySem.W.mg_none_of X G z_len
    n_isinstance := PySem.W.mg_none_of X G z_isinstance
    n_all := PySem.W.mg_none_of X G z_all
    n_enumerate := PySem.W.mg_none_of X G z_enumerate
    n_abs := PySem.W.mg_none_of X G z_abs
    n_int := PySem.W.mg_none_of X G z_int
    n_divmod := PySem.W.mg_none_of X G z_divmod
    n_range := PySem.W.mg_none_of X G z_range
    n_repr := PySem.W.mg_none_of X G z_repr
    n_max := PySem.W.mg_none_of X G z_max
    n_min := PySem.W.mg_none_of X G z_min
    n_ValueError := PySem.W.mg_none_of X G z_ValueError
    n_LookupError := PySem.W.mg_none_of X G z_LookupError
    n_ArithmeticError := PySem.W.mg_none_of X G z_ArithmeticError }, rfl⟩
end MH
namespace MH
open PySem PySem.Spec PyProof.Rows L2
/-! ### frames -/
theorem _root_.L2.Same.sqt {K : PySem.W.Frag} {H H' : Hp} {a : Addr} {xs : List V} (e : Same H H') (h : SqT K H a xs) : SqT K H' a xs := by
  rcases h with (h | ⟨o, h⟩) | h
  · exact .inl (.inl (e _ _ h))
  · exact .inl (.inr ⟨o, e _ _ h⟩)
  · exact .inr h
theorem _root_.L2.Same.new {H : Hp} {p : Addr} {o : HO} (h : H p = none) : Same H (upd H p o) := fun b x e => by
  rw [upd_ne (ne_of_none e h)]
  exact e
theorem _root_.L2.Same.new' {H H1 : Hp} {p : Addr} {o : HO} (s : Same H H1) (h : H1 p = none) : Same H (upd H1 p o) := s.trans (Same.new h)
/-- all as it was but p -/
def SameB (p : Addr) (H H' : Hp) : Prop := ∀ b o, b ≠ p → H b = some o → H' b = some o
theorem SameB.of {p : Addr} {H H' : Hp} (s : Same H H') : SameB p H H' := fun b o _ e => s b o e
theorem SameB.refl (p : Addr) (H : Hp) : SameB p H H := fun _ _ _ e => e
theorem SameB.trans {p : Addr} {H H1 H2 : Hp} (a : SameB p H H1) (b : SameB p H1 H2) : SameB p H H2 := fun c o n e => b c o n (a c o n e)
theorem SameB.put {p : Addr} {H H1 : Hp} {o : HO} (s : SameB p H H1) : SameB p H (upd H1 p o) := fun b x n e => by
  rw [upd_ne n]
  exact s b x n e
theorem SameB.new {p q : Addr} {H H1 : Hp} {o : HO} (s : SameB p H H1) (h : H1 q = none) : SameB p H (upd H1 q o) := s.trans (SameB.of (Same.new h))
/-- a tuple stands where only a list changed -/
theorem SameB.sqt {K : PySem.W.Frag} {p a : Addr} {H H' : Hp} {xs ys : List V} (s : SameB p H H') (hp : H p = some (.lst ys)) (h : SqT K H a xs) : SqT K H' a xs := by
  rcases h with (h | ⟨o, h⟩) | h
  · exact .inl (.inl (s _ _ (ne_of h hp (by intro q; cases q)) h))
  · exact .inl (.inr ⟨o, s _ _ (ne_of h hp (by intro q; cases q)) h⟩)
  · exact .inr h
theorem tup_of {K : PySem.W.Frag} {H : Hp} {a : Addr} {xs : List V} (h : H a = some (.tup xs)) : SqT K H a xs := .inl (.inl h)
theorem frz_of {K : PySem.W.Frag} {H : Hp} {a : Addr} {o : Obj} {xs : List V} (h : H a = some (.frz o (.tup xs))) : SqT K H a xs := .inl (.inr ⟨o, h⟩)
theorem lst_of {K : PySem.W.Frag} {H : Hp} {a : Addr} {xs : List V} (h : H a = some (.lst xs)) : SqL K H a xs := .inl (.inl h)
theorem le_line {n : Nat} (h : n ≤ 100000) : n ≤ sizeLine := Nat.le_trans h (by decide)
theorem lt_line {n : Nat} (h : n < 100000) : n < sizeLine := Nat.lt_of_lt_of_le h (by decide)

/-! ### the purse -/
def Pu (H : Hp) (p : Addr) : Prop := ∃ x y : Int, H p = some (.lst [.int x, .int y]) ∧ 0 ≤ x ∧ 0 ≤ y ∧ y < 2147483647
theorem Pu.sqt {K : PySem.W.Frag} {H H' : Hp} {p a : Addr} {xs : List V} (u : Pu H p) (s : SameB p H H') (h : SqT K H a xs) : SqT K H' a xs := by
  obtain ⟨x, y, hp, _⟩ := u
  exact s.sqt hp h
theorem Pu.same {H H' : Hp} {p : Addr} (u : Pu H p) (s : Same H H') : Pu H' p := by
  obtain ⟨x, y, hp, h⟩ := u
  exact ⟨x, y, s _ _ hp, h⟩
theorem Pu.put {H : Hp} {p q : Addr} {o u : HO} (a : Pu H p) (hq : H q = some u) (d : ∀ x y : Int, u ≠ .lst [.int x, .int y]) : Pu (upd H q o) p := by
  obtain ⟨x, y, hp, h⟩ := a
  have n : p ≠ q := fun e => by
    subst e
    rw [hp] at hq
    exact d x y (Option.some.inj hq).symm
  exact ⟨x, y, by rw [upd_ne n]; exact hp, h⟩
def spDraw : Sp := fun vs H Q _ => ∃ (p : Addr) (m : Int), vs = [.ref p, .int m] ∧ Pu H p ∧ 0 < m ∧ m < 1000000 ∧ ∀ d H', 0 ≤ d → d < m → SameB p H H' → Pu H' p → Q (.int d) H'

section
variable {P : Program} {w : World} {K : PySem.W.Frag} {mg : Str → Option Value} {base : Heap}
theorem ok_l_draw (T : Tx K mg) : FnOk P w K mg base CX0 1 T.a_l_draw T.fd_l_draw ["_law_purse_here", "_law_many"] spDraw := by
  refine T.F_l_draw.ok sc_l_draw (fun vs H Q E h => ?_) (fun cdv A outer s H vs Q E hr h => ?_)
  · obtain ⟨p, m, rfl, _⟩ := h
    rfl
  · obtain ⟨p, m, rfl, ⟨x, y, hp, hx, hy, hy2⟩, hm, hm2, k⟩ := h
    refine ⟨_, (pss_cons (ps_if (pt_cmpR op_gt (pe_ix ix_list (pv 0) pe_int (fun _ _ => rfl)) pe_int (nomark _))
        (pss_cons (ps_asg (pe_callB call_divmod (by rfl) T.n_divmod (by decide +kernel) (pa_cons (pe_ix ix_list (pv 0) pe_int (fun _ _ => rfl)) (pa_cons (pv 1) pa_nil))) (pg_tup rfl (pgs_cons (pg_sub (pv 0) pe_int set_list) (pgs_cons (pg_name (i := 2) sc_l_draw.nd rfl (Or.inl rfl)) pgs_nil))))
      (pss_one (ps_ret (pv 2))))
        pss_nil)
      (pss_cons (ps_asg (pe_op op_mod (pe_callTy call_int1 (by rfl) T.n_int (by decide +kernel) (pa_cons (pe_op op_add (pe_op op_mul (pe_ix ix_list (pv 0) pe_int (fun _ _ => rfl)) pe_int) pe_int) pa_nil)) pe_int) (pg_sub (pv 0) pe_int set_list))
      (pss_one (ps_ret (pe_op op_mod (pe_callTy call_int1 (by rfl) T.n_int (by decide +kernel) (pa_cons (pe_op op_fdiv (pe_ix ix_list (pv 0) pe_int (fun _ _ => rfl)) pe_int) pa_nil)) (pv 1)))))), ?_⟩
    refine ⟨_, rfl, p, _, 0, _, rfl, rfl, lst_of hp, rfl, _, _, rfl, rfl, _, rfl, ?_⟩
    refine ite2 (fun c => ?_) (fun c => ?_)
    · have c : 0 < x := of_decide_eq_true c
      refine ⟨_, rfl, p, _, 0, _, rfl, rfl, lst_of hp, rfl, _, rfl, _, _, rfl, ⟨hm, by omega⟩, fun t ht => ?_⟩
      have npt : p ≠ t := ne_of_none hp ht
      refine ⟨t, _, rfl, tup_of upd_same, rfl, _, _, rfl, _, rfl, p, _, 0, 0, rfl, rfl, (by rw [upd_ne npt]; exact hp), rfl, _, _, rfl, rfl, ?_⟩
      refine ⟨_, rfl, ?_⟩
      refine k _ _ (Int.emod_nonneg _ (by omega)) (Int.emod_lt_of_pos _ hm) ((SameB.refl p H).new ht).put ⟨x / m, y, ?_, Int.ediv_nonneg hx (by omega), hy, hy2⟩
      rw [upd_same]
      rfl
    · refine ⟨_, rfl, p, _, 1, _, rfl, rfl, lst_of hp, rfl, _, _, rfl, rfl, .inl ⟨by omega, by omega⟩, _, _, rfl, rfl, .inl ⟨_, rfl, _, _, rfl, rfl, (by show (0 : Int) < 2147483647; decide), ?_⟩⟩
      refine ⟨_, rfl, p, _, 1, 1, rfl, rfl, hp, rfl, ?_⟩
      refine ⟨_, rfl, p, _, 1, _, rfl, rfl, lst_of upd_same, rfl, _, _, rfl, rfl, ⟨by decide, by decide⟩, .inl ⟨_, rfl, _, rfl, _, _, rfl, rfl, hm, ?_⟩⟩
      refine k _ _ (Int.emod_nonneg _ (by omega)) (Int.emod_lt_of_pos _ hm) (SameB.refl p H).put ⟨x, _, upd_same, hx, Int.emod_nonneg _ (by decide), Int.emod_lt_of_pos _ (by decide)⟩
end
end MH
namespace MH
open PySem PySem.Spec PyProof.Rows L2
def spErr (C : Addr) (f : Str) : Sp := fun vs H Q _ => ∃ (a : Addr) (v : V), vs = [.ref a, v] ∧ H a = some (exo a C none) ∧ ∀ dx, H dx = none → dx ≠ a → Q .non (upd (upd H dx (exd dx [(f, v)])) a (exo a C (some dx)))
def spErr2 (C : Addr) (f g : Str) : Sp := fun vs H Q _ => ∃ (a : Addr) (v w : V), vs = [.ref a, v, w] ∧ H a = some (exo a C none) ∧ ∀ dx, H dx = none → dx ≠ a → Q .non (upd (upd (upd H dx (exd dx [(f, v)])) a (exo a C (some dx))) dx (exd dx [(g, w), (f, v)]))
/-- the error at a, whatever its fields -/
def ErC (H : Hp) (a C : Addr) : Prop := (∃ fs, ErV H a C fs) ∨ ErN H a C
theorem ErC.same {H H' : Hp} {a C : Addr} (e : ErC H a C) (s : Same H H') : ErC H' a C := by
  rcases e with ⟨fs, e⟩ | e
  · exact .inl ⟨fs, e.same s⟩
  · exact .inr (e.same s)
/-- v: a pair of errors of the class at C with these fields -/
def PairV (K : PySem.W.Frag) (H : Hp) (v : V) (C : Addr) (fs : List (Str × V)) : Prop := ∃ p a b, v = .ref p ∧ SqT K H p [.ref a, .ref b] ∧ ErV H a C fs ∧ ErV H b C fs
def PairC (K : PySem.W.Frag) (H : Hp) (v : V) (C : Addr) : Prop := ∃ p a b, v = .ref p ∧ SqT K H p [.ref a, .ref b] ∧ ErC H a C ∧ ErC H b C
theorem PairV.same {K : PySem.W.Frag} {H H' : Hp} {v : V} {C : Addr} {fs : List (Str × V)} (e : PairV K H v C fs) (s : Same H H') : PairV K H' v C fs := by
  obtain ⟨p, a, b, rfl, h1, h2, h3⟩ := e
  exact ⟨p, a, b, rfl, s.sqt h1, h2.same s, h3.same s⟩
theorem PairC.same {K : PySem.W.Frag} {H H' : Hp} {v : V} {C : Addr} (e : PairC K H v C) (s : Same H H') : PairC K H' v C := by
  obtain ⟨p, a, b, rfl, h1, h2, h3⟩ := e
  exact ⟨p, a, b, rfl, s.sqt h1, h2.same s, h3.same s⟩
theorem PairV.toC {K : PySem.W.Frag} {H : Hp} {v : V} {C : Addr} {fs : List (Str × V)} (e : PairV K H v C fs) : PairC K H v C := by
  obtain ⟨p, a, b, rfl, h1, h2, h3⟩ := e
  exact ⟨p, a, b, rfl, h1, .inl ⟨_, h2⟩, .inl ⟨_, h3⟩⟩
/-- what making an error leaves, where it is kept -/
theorem made_v {H : Hp} {C : Addr} {f : Str} {v : V} {Q : Addr → Hp → Prop} (h : ∀ a H', Same H H' → ErV H' a C [(f, v)] → Q a H') : ∀ a, H a = none → spErr C f [.ref a, v] (upd H a (exo a C none)) (fun x H2 => x = .non ∧ Q a H2) (fun _ _ _ => False) := by
  refine fun a na => ⟨a, v, rfl, upd_same, fun dx ndx hne => ⟨rfl, h a _ (fun b o e => ?_) ⟨dx, upd_same, ?_⟩⟩⟩
  · rw [upd_ne hne] at ndx
    rw [upd_ne (ne_of_none e na), upd_ne (ne_of_none e ndx), upd_ne (ne_of_none e na)]
    exact e
  · rw [upd_ne hne, upd_same]
theorem made_v2 {H : Hp} {C : Addr} {f g : Str} {v w : V} {Q : Addr → Hp → Prop} (h : ∀ a H', Same H H' → ErV H' a C [(g, w), (f, v)] → Q a H') : ∀ a, H a = none → spErr2 C f g [.ref a, v, w] (upd H a (exo a C none)) (fun x H2 => x = .non ∧ Q a H2) (fun _ _ _ => False) := by
  refine fun a na => ⟨a, v, w, rfl, upd_same, fun dx ndx hne => ⟨rfl, h a _ (fun b o e => ?_) ⟨dx, ?_, upd_same⟩⟩⟩
  · rw [upd_ne hne] at ndx
    rw [upd_ne (ne_of_none e ndx), upd_ne (ne_of_none e na), upd_ne (ne_of_none e ndx), upd_ne (ne_of_none e na)]
    exact e
  · rw [upd_ne hne.symm, upd_same]
/-- (C(x), C(f = x)), x in the slot i -/
def tPair (K : PySem.W.Frag) (C : Addr) (f : Str) (i : Nat) : TE := fun σ H Q => ∃ v, σ[i]? = some (some v) ∧ ∀ y H', Same H H' → PairV K H' y C [(f, v)] → Q y H'
theorem pair_weak {K : PySem.W.Frag} {C : Addr} {f : Str} {i : Nat} {σ : L2.St} {H : Hp} {Q : VK} (h : tPair K C f i σ H Q) :
    tTup (tCons (tMkV C (spErr C f) (tCons (tVar i) tNil)) (tCons (tMkVK C (spErr C f) (fun vs zs => vs ++ zs) 1 (tCons (tVar i) tNil)) tNil)) σ H Q := by
  obtain ⟨v, e, q⟩ := h
  refine ⟨v, e, (by show 1 ≤ 1000; decide), made_v fun a H1 s1 e1 => ⟨v, e, rfl, made_v fun b H2 s2 e2 => ⟨(by show 2 ≤ sizeLine; decide), fun p np => ?_⟩⟩⟩
  exact q _ _ ((s1.trans s2).new' np) ⟨p, a, b, rfl, tup_of upd_same, (e1.same s2).same (Same.new np), e2.same (Same.new np)⟩
end MH
namespace MH
open PySem PySem.Spec PyProof.Rows L2
/-! ### data with dicts, as repr shows it -/
mutual
inductive DX (K : PySem.W.Frag) (H : Hp) : V → PyData → Prop
  | non : DX K H .non .none
  | bl (b : Bool) : DX K H (.bl b) (.bool b)
  | int (i : Int) : DX K H (.int i) (.int i)
  | str (x : Str) : DX K H (.str x) (.str x)
  | lst {a : Addr} {xs : List V} {ds : List PyData} : H a = some (.lst xs) → DXs K H xs ds → DX K H (.ref a) (.list ds)
  | tup {a : Addr} {xs : List V} {ds : List PyData} : SqT K H a xs → DXs K H xs ds → DX K H (.ref a) (.tuple ds)
  | dk0 {a : Addr} : H a = some (.dK []) → DX K H (.ref a) (.dict [])
  | dk1 {a t : Addr} {x : Str} : H a = some (.dK [(.inr x, .ref t)]) → SqT K H t [] → DX K H (.ref a) (.dict [(.str x, .tuple [])])
inductive DXs (K : PySem.W.Frag) (H : Hp) : List V → List PyData → Prop
  | nil : DXs K H [] []
  | cons {v : V} {vs : List V} {d : PyData} {ds : List PyData} : DX K H v d → DXs K H vs ds → DXs K H (v :: vs) (d :: ds)
end
mutual
theorem DX.same {K : PySem.W.Frag} {H H' : Hp} (s : Same H H') : ∀ {v : V} {d : PyData}, DX K H v d → DX K H' v d
  | _, _, .non => .non
  | _, _, .bl b => .bl b
  | _, _, .int i => .int i
  | _, _, .str x => .str x
  | _, _, .lst h t => .lst (s _ _ h) (DXs.same s t)
  | _, _, .tup h t => .tup (s.sqt h) (DXs.same s t)
  | _, _, .dk0 h => .dk0 (s _ _ h)
  | _, _, .dk1 h t => .dk1 (s _ _ h) (s.sqt t)
theorem DXs.same {K : PySem.W.Frag} {H H' : Hp} (s : Same H H') : ∀ {vs : List V} {ds : List PyData}, DXs K H vs ds → DXs K H' vs ds
  | _, _, .nil => .nil
  | _, _, .cons h t => .cons (DX.same s h) (DXs.same s t)
end
theorem DXs.rep {K : PySem.W.Frag} {H : Hp} {v : V} {d : PyData} (h : DX K H v d) : ∀ n, DXs K H (List.replicate n v) (List.replicate n d)
  | 0 => .nil
  | n + 1 => .cons h (DXs.rep h n)
section
variable {X : Cx} {pins : List (Addr × Obj)} {σ : L2.St} {H : Hp} {s : Shared}
theorem DX.dict1 (I : Inv X pins σ H s) {a t : Addr} {x : Str} (h : H a = some (.dK [(.inr x, .ref t)])) (ht : SqT X.K H t []) : Reads s.heap (.ref a) (.dict [(.str x, .tuple [])]) ([a] ++ []) ∧ sysModules ≠ a := by
  obtain ⟨_, hs, vs, hk, hd⟩ := dk_of I.hok h
  obtain ⟨o, es, ep, ho, hx, hdat, hk2, hp, _⟩ := hd
  refine ⟨?_, fun z => ?_⟩
  · cases hk with
    | @cons p q ps qs h1 h2 =>
      cases h2
      obtain ⟨k0, w0⟩ := q
      obtain ⟨e1, e2⟩ := h1
      have e1 : (Sum.inr x : Key) = k0 := e1
      have e2 : w0 = Value.ref t := e2
      subst e1 e2
      generalize hl : es.toList = l at hp
      cases hp with
      | @cons en _ _ _ g1 g2 g3 =>
        cases g3
        rcases keyIs_shape (k := .inr x) g1 with ⟨i, tk, e3, e4⟩ | ⟨z, tk, e3, e4⟩
        · cases e3
        · cases e3
          obtain ⟨its, rv, ⟨o2, ho2, hc2, n2, hd2⟩, _⟩ := I.tuple ht
          cases rv
          refine Reads.dict (as := []) (bs := []) ho hx.1 hdat ?_ ?_
          · rw [hl]
            show ReadsAll s.heap [en.key] [PyData.str x] ([] ++ [])
            rw [e4]
            exact .cons (.str x tk) .nil
          · rw [hl]
            show ReadsAll s.heap [en.val] [PyData.tuple []] ([] ++ [])
            rw [g2]
            exact .cons (.tuple ho2 hc2 hd2 .nil) .nil
  · rw [← z] at hs
    simp at hs
mutual
theorem DX.reads (I : Inv X pins σ H s) : ∀ {v : V} {d : PyData} {u : Value}, DX X.K H v d → RelV v u → ∃ as, Reads s.heap u d as
  | _, _, _, .non, r => by
    cases r
    exact ⟨_, .none⟩
  | _, _, _, .bl b, r => by
    cases r
    exact ⟨_, .bool b⟩
  | _, _, _, .int i, r => by
    obtain ⟨t, rfl⟩ := r
    exact ⟨_, .int i t⟩
  | _, _, _, .str x, r => by
    obtain ⟨t, rfl⟩ := r
    exact ⟨_, .str x t⟩
  | _, _, _, .lst h t, r => by
    cases r
    obtain ⟨its, rv, ⟨o, n, ho, hc, _, hd⟩, _⟩ := I.list (lst_of h)
    obtain ⟨as, hr⟩ := DXs.reads I t rv
    exact ⟨_, .list ho hc hd hr⟩
  | _, _, _, .tup h t, r => by
    cases r
    obtain ⟨its, rv, ⟨o, ho, hc, n, hd⟩, _⟩ := I.tuple h
    obtain ⟨as, hr⟩ := DXs.reads I t rv
    exact ⟨_, .tuple ho hc hd hr⟩
  | _, _, _, .dk0 h, r => by
    cases r
    exact ⟨_, (empty_reads I.hok h).1⟩
  | _, _, _, .dk1 h t, r => by
    cases r
    exact ⟨_, (DX.dict1 I h t).1⟩
theorem DXs.reads (I : Inv X pins σ H s) : ∀ {vs : List V} {ds : List PyData} {us : List Value}, DXs X.K H vs ds → Vals vs us → ∃ as, ReadsAll s.heap us ds as
  | _, _, _, .nil, r => by
    cases r
    exact ⟨_, .nil⟩
  | _, _, _, .cons h t, r => by
    cases r with
    | cons r1 r2 =>
      obtain ⟨as, hr⟩ := DX.reads I h r1
      obtain ⟨bs, hr2⟩ := DXs.reads I t r2
      exact ⟨_, .cons hr hr2⟩
end
mutual
theorem DX.reprK (I : Inv X pins σ H s) : ∀ {v : V} {d : PyData} {u : Value}, DX X.K H v d → RelV v u → d.showable = true → d.shown.length ≤ sizeLine → ∃ bs, ReadAtMost s.heap d.depth bs ∧ ReprK X.prog X.w bs s.heap d.depth u d.shown
  | _, _, _, .non, r, hs, hz => by
    cases r
    exact ReprK.of_reads .none hs (fun z => nomatch z) hz
  | _, _, _, .bl b, r, hs, hz => by
    cases r
    exact ReprK.of_reads (.bool b) hs (fun z => nomatch z) hz
  | _, _, _, .int i, r, hs, hz => by
    obtain ⟨t, rfl⟩ := r
    exact ReprK.of_reads (.int i t) hs (fun z => nomatch z) hz
  | _, _, _, .str x, r, hs, hz => by
    obtain ⟨t, rfl⟩ := r
    exact ReprK.of_reads (.str x t) hs (fun z => nomatch z) hz
  | _, _, _, .lst (a := a) (xs := vs) (ds := xs) h t, rr, hs, hz => by
    cases rr
    obtain ⟨its, rv, ⟨o, n, h1, h2, _, h3⟩, _⟩ := I.list (lst_of h)
    obtain ⟨as, h4⟩ := DXs.reads I t rv
    have hz' : (listText (PyData.shownAll xs)).length ≤ sizeLine := by simpa only [PyData.shown] using hz
    obtain ⟨bs, hb, hk⟩ := DXs.reprK I t rv (by simpa [PyData.showable] using hs) (fun t ht => Nat.le_trans (listText_mem_le ht) hz')
    have r : Reads s.heap (.ref a) (.list xs) _ := .list h1 h2 h3 h4
    have hna : a ∉ bs := not_mem_of_deeper r (by simp only [PyData.depth]; omega) hb
    refine ⟨a :: bs, ReadAtMost.cons r (by simp only [PyData.depth]; omega) hb, ?_⟩
    simp only [PyData.depth, PyData.shown]
    cases its with
    | nil =>
      have h4' : ReadsAll s.heap [] xs _ := h4
      cases h4'
      simp only [PyData.shownAll, listText_nil]
      exact ReprK.listEmpty h1 h2 h3
    | cons x l => exact ReprK.list h1 h2 h3 hna (by simpa using hk.length_eq) (fun i y e => hk.item i y (by simpa using e))
  | _, _, _, .tup (a := a) (xs := vs) (ds := xs) h t, rr, hs, hz => by
    cases rr
    obtain ⟨its, rv, ⟨o, h1, h2, n, h3⟩, _⟩ := I.tuple h
    obtain ⟨as, h4⟩ := DXs.reads I t rv
    have hz' : (tupleText (PyData.shownAll xs)).length ≤ sizeLine := by simpa only [PyData.shown] using hz
    obtain ⟨bs, hb, hk⟩ := DXs.reprK I t rv (by simpa [PyData.showable] using hs) (fun t ht => Nat.le_trans (tupleText_mem_le ht) hz')
    have r : Reads s.heap (.ref a) (.tuple xs) _ := .tuple h1 h2 h3 h4
    have hna : a ∉ bs := not_mem_of_deeper r (by simp only [PyData.depth]; omega) hb
    refine ⟨a :: bs, ReadAtMost.cons r (by simp only [PyData.depth]; omega) hb, ?_⟩
    simp only [PyData.depth, PyData.shown]
    exact ReprK.tuple h1 h2 h3 hna hk
  | _, _, _, .dk0 h, r, hs, hz => by
    cases r
    obtain ⟨rd, ns⟩ := empty_reads I.hok h
    exact ReprK.of_reads rd hs (fun _ z => ns (by simpa using z)) hz
  | _, _, _, .dk1 h t, r, hs, hz => by
    cases r
    obtain ⟨rd, ns⟩ := DX.dict1 I h t
    exact ReprK.of_reads rd hs (fun _ z => ns (by simpa using z)) hz
theorem DXs.reprK (I : Inv X pins σ H s) : ∀ {vs : List V} {ds : List PyData} {us : List Value}, DXs X.K H vs ds → Vals vs us → PyData.showableAll ds = true → (∀ t ∈ PyData.shownAll ds, t.length ≤ sizeLine) →
    ∃ bs, ReadAtMost s.heap (PyData.depthAll ds) bs ∧ ReprAllK X.prog X.w bs s.heap (PyData.depthAll ds) us (PyData.shownAll ds)
  | _, _, _, .nil, r, _, _ => by
    cases r
    exact ⟨[], (fun _ h => nomatch h), by simp only [PyData.shownAll]; exact .nil⟩
  | _, _, _, .cons (d := d) (ds := ds) h t, r, hs, hz => by
    cases r with
    | cons r1 r2 =>
      have hs' : d.showable = true ∧ PyData.showableAll ds = true := by simpa [PyData.showableAll] using hs
      obtain ⟨b1, hb1, k1⟩ := DX.reprK I h r1 hs'.1 (hz _ (by simp only [PyData.shownAll]; exact List.mem_cons_self ..))
      obtain ⟨b2, hb2, k2⟩ := DXs.reprK I t r2 hs'.2 (fun t ht => hz t (by simp only [PyData.shownAll]; exact List.mem_cons_of_mem _ ht))
      refine ⟨b1 ++ b2, ?_, ?_⟩
      · intro b hm
        simp only [PyData.depthAll]
        rcases List.mem_append.mp hm with hm | hm
        · obtain ⟨d', as', r', hd'⟩ := hb1 b hm
          exact ⟨d', as', r', Nat.le_trans hd' (Nat.le_max_left _ _)⟩
        · obtain ⟨d', as', r', hd'⟩ := hb2 b hm
          exact ⟨d', as', r', Nat.le_trans hd' (Nat.le_max_right _ _)⟩
      · simp only [PyData.depthAll, PyData.shownAll]
        exact .cons ((k1.more fun b hb => List.mem_append_left _ hb).level_le (Nat.le_max_left _ _)) (k2.more_le (fun b hb => List.mem_append_right _ hb) (Nat.le_max_right _ _))
end
end
/-- repr of a list of such data -/
def rReprX (K : PySem.W.Frag) : List V → Hp → VK → Prop := fun xs H Q => ∃ (a : Addr) (vs : List V) (ds : List PyData), xs = [.ref a] ∧ H a = some (.lst vs) ∧ DXs K H vs ds ∧ (PyData.list ds).showable = true ∧ (PyData.list ds).depth ≤ 60 ∧ (PyData.list ds).shown.length ≤ sizeLine ∧ Q (.str (PyData.list ds).shown) H
theorem call_reprX {X : Cx} (hg : X.A.guards = some []) (hu : X.A.units + 64 < cLine) : CallR X (.builtin "repr") (rReprX X.K) := by
  intro pins s σ H xs us Q I r h
  obtain ⟨a, vs, ds, rfl, h, t, hs, hdep, hz, q⟩ := h
  obtain ⟨u, rfl, ru⟩ := vals1 r
  obtain rfl : u = Value.ref a := ru
  obtain ⟨its, rv, ⟨o, n, h1, h2, _, h3⟩, _⟩ := I.list (lst_of h)
  obtain ⟨as, h4⟩ := DXs.reads I t rv
  have hz' : (listText (PyData.shownAll ds)).length ≤ sizeLine := by simpa only [PyData.shown] using hz
  obtain ⟨bs, hb, hk⟩ := DXs.reprK I t rv (by simpa [PyData.showable] using hs) (fun t ht => Nat.le_trans (listText_mem_le ht) hz')
  have hna : a ∉ bs := not_mem_of_deeper (.list h1 h2 h3 h4) (by simp only [PyData.depth]; omega) hb
  have S : ShowsBy X.prog X.w s.heap a (PyData.list ds) "list" "list.__repr__" := by
    refine ⟨F.slot_list_repr.toG, F.slot_list_str, F.slot_list_format, fun s' hk0 => ⟨o, hk0 _ _ h1, h2⟩, fun A E s' Q hg hu hk0 hQ => ?_⟩
    simp only [PyData.depth] at hu
    simp only [PyData.shown] at hQ
    cases its with
    | nil =>
      have h4' : ReadsAll s.heap [] ds _ := h4
      cases h4'
      simp only [PyData.shownAll, listText_nil] at hQ
      exact call_list_repr_empty ⟨o, hk0 _ _ h1, h2⟩ (hk0 _ _ h1) h3 (hQ s'.heap _ _ fun _ _ e => e)
    | cons x l =>
      exact call_list_reprK h1 h2 h3 hna (by simpa using hk.length_eq) (fun i y e => hk.item i y (by simpa using e)) hg (fun b _ => Clear.nil b) hu hk0 hQ hz'
  exact call_repr_slot (by omega) (S.typeIs s (fun _ _ e => e)) S.slotRepr (S.call X.A.in1 X.xe s _ hg (by show X.A.units + 1 + (PyData.list ds).depth < cLine; omega) (fun _ _ e => e) fun h' u tk hk => ⟨_, _, rfl, ⟨.str (PyData.list ds).shown, H, I.kept hk, ⟨_, rfl⟩, q⟩⟩)
end MH
namespace MH
open PySem PySem.Spec PyProof.Rows L2
section
variable {P : Program} {w : World} {K : PySem.W.Frag} {mg : Str → Option Value} {base : Heap}
theorem ok_InvalidTextD_initD (T : Tx K mg) : FnOk P w K mg base CX0 1 T.a_InvalidTextD_initD T.fd_InvalidTextD_initD ["self", "given"] (spErr T.E_InvalidText "given") := by
  refine T.F_InvalidTextD_initD.ok sc_InvalidTextD_initD (fun vs H Q E h => ?_) (fun cdv A outer s H vs Q E hr h => ?_)
  · obtain ⟨a, v, rfl, _⟩ := h
    rfl
  · obtain ⟨a, v, rfl, ha, k⟩ := h
    refine ⟨_, (pss_one (ps_ostG (B := "ValueError") (newId := "ValueError.__new__") (initId := "ValueError.__init__") (bmB := [Value.type "ValueError", Value.type "Exception", Value.type "BaseException", Value.type "object"]) (pv 0) (pv 1))), ?_⟩
    exact ⟨_, rfl, _, rfl, a, T.E_InvalidText, rfl, T.ox_InvalidText, T.no_InvalidText_given, ha, fun dx nd hne => k dx nd hne⟩
theorem ok_InvalidMarksD_initD (T : Tx K mg) : FnOk P w K mg base CX0 1 T.a_InvalidMarksD_initD T.fd_InvalidMarksD_initD ["self", "given"] (spErr T.E_InvalidMarks "given") := by
  refine T.F_InvalidMarksD_initD.ok sc_InvalidMarksD_initD (fun vs H Q E h => ?_) (fun cdv A outer s H vs Q E hr h => ?_)
  · obtain ⟨a, v, rfl, _⟩ := h
    rfl
  · obtain ⟨a, v, rfl, ha, k⟩ := h
    refine ⟨_, (pss_one (ps_ostG (B := "ValueError") (newId := "ValueError.__new__") (initId := "ValueError.__init__") (bmB := [Value.type "ValueError", Value.type "Exception", Value.type "BaseException", Value.type "object"]) (pv 0) (pv 1))), ?_⟩
    exact ⟨_, rfl, _, rfl, a, T.E_InvalidMarks, rfl, T.ox_InvalidMarks, T.no_InvalidMarks_given, ha, fun dx nd hne => k dx nd hne⟩
theorem ok_InvalidIndexD_initD (T : Tx K mg) : FnOk P w K mg base CX0 1 T.a_InvalidIndexD_initD T.fd_InvalidIndexD_initD ["self", "given"] (spErr T.E_InvalidIndex "given") := by
  refine T.F_InvalidIndexD_initD.ok sc_InvalidIndexD_initD (fun vs H Q E h => ?_) (fun cdv A outer s H vs Q E hr h => ?_)
  · obtain ⟨a, v, rfl, _⟩ := h
    rfl
  · obtain ⟨a, v, rfl, ha, k⟩ := h
    refine ⟨_, (pss_one (ps_ostG (B := "ValueError") (newId := "ValueError.__new__") (initId := "ValueError.__init__") (bmB := [Value.type "ValueError", Value.type "Exception", Value.type "BaseException", Value.type "object"]) (pv 0) (pv 1))), ?_⟩
    exact ⟨_, rfl, _, rfl, a, T.E_InvalidIndex, rfl, T.ox_InvalidIndex, T.no_InvalidIndex_given, ha, fun dx nd hne => k dx nd hne⟩
theorem ok_InvalidWordD_initD (T : Tx K mg) : FnOk P w K mg base CX0 1 T.a_InvalidWordD_initD T.fd_InvalidWordD_initD ["self", "given"] (spErr T.E_InvalidWord "given") := by
  refine T.F_InvalidWordD_initD.ok sc_InvalidWordD_initD (fun vs H Q E h => ?_) (fun cdv A outer s H vs Q E hr h => ?_)
  · obtain ⟨a, v, rfl, _⟩ := h
    rfl
  · obtain ⟨a, v, rfl, ha, k⟩ := h
    refine ⟨_, (pss_one (ps_ostG (B := "ValueError") (newId := "ValueError.__new__") (initId := "ValueError.__init__") (bmB := [Value.type "ValueError", Value.type "Exception", Value.type "BaseException", Value.type "object"]) (pv 0) (pv 1))), ?_⟩
    exact ⟨_, rfl, _, rfl, a, T.E_InvalidWord, rfl, T.ox_InvalidWord, T.no_InvalidWord_given, ha, fun dx nd hne => k dx nd hne⟩
theorem ok_NotARankingD_initD (T : Tx K mg) : FnOk P w K mg base CX0 1 T.a_NotARankingD_initD T.fd_NotARankingD_initD ["self", "given"] (spErr T.E_NotARanking "given") := by
  refine T.F_NotARankingD_initD.ok sc_NotARankingD_initD (fun vs H Q E h => ?_) (fun cdv A outer s H vs Q E hr h => ?_)
  · obtain ⟨a, v, rfl, _⟩ := h
    rfl
  · obtain ⟨a, v, rfl, ha, k⟩ := h
    refine ⟨_, (pss_one (ps_ostG (B := "ValueError") (newId := "ValueError.__new__") (initId := "ValueError.__init__") (bmB := [Value.type "ValueError", Value.type "Exception", Value.type "BaseException", Value.type "object"]) (pv 0) (pv 1))), ?_⟩
    exact ⟨_, rfl, _, rfl, a, T.E_NotARanking, rfl, T.ox_NotARanking, T.no_NotARanking_given, ha, fun dx nd hne => k dx nd hne⟩
theorem ok_NotAHouseD_initD (T : Tx K mg) : FnOk P w K mg base CX0 1 T.a_NotAHouseD_initD T.fd_NotAHouseD_initD ["self", "given"] (spErr T.E_NotAHouse "given") := by
  refine T.F_NotAHouseD_initD.ok sc_NotAHouseD_initD (fun vs H Q E h => ?_) (fun cdv A outer s H vs Q E hr h => ?_)
  · obtain ⟨a, v, rfl, _⟩ := h
    rfl
  · obtain ⟨a, v, rfl, ha, k⟩ := h
    refine ⟨_, (pss_one (ps_ostG (B := "ValueError") (newId := "ValueError.__new__") (initId := "ValueError.__init__") (bmB := [Value.type "ValueError", Value.type "Exception", Value.type "BaseException", Value.type "object"]) (pv 0) (pv 1))), ?_⟩
    exact ⟨_, rfl, _, rfl, a, T.E_NotAHouse, rfl, T.ox_NotAHouse, T.no_NotAHouse_given, ha, fun dx nd hne => k dx nd hne⟩
theorem ok_NotALookD_initD (T : Tx K mg) : FnOk P w K mg base CX0 1 T.a_NotALookD_initD T.fd_NotALookD_initD ["self", "given"] (spErr T.E_NotALook "given") := by
  refine T.F_NotALookD_initD.ok sc_NotALookD_initD (fun vs H Q E h => ?_) (fun cdv A outer s H vs Q E hr h => ?_)
  · obtain ⟨a, v, rfl, _⟩ := h
    rfl
  · obtain ⟨a, v, rfl, ha, k⟩ := h
    refine ⟨_, (pss_one (ps_ostG (B := "ValueError") (newId := "ValueError.__new__") (initId := "ValueError.__init__") (bmB := [Value.type "ValueError", Value.type "Exception", Value.type "BaseException", Value.type "object"]) (pv 0) (pv 1))), ?_⟩
    exact ⟨_, rfl, _, rfl, a, T.E_NotALook, rfl, T.ox_NotALook, T.no_NotALook_given, ha, fun dx nd hne => k dx nd hne⟩
theorem ok_NotLooksD_initD (T : Tx K mg) : FnOk P w K mg base CX0 1 T.a_NotLooksD_initD T.fd_NotLooksD_initD ["self", "given"] (spErr T.E_NotLooks "given") := by
  refine T.F_NotLooksD_initD.ok sc_NotLooksD_initD (fun vs H Q E h => ?_) (fun cdv A outer s H vs Q E hr h => ?_)
  · obtain ⟨a, v, rfl, _⟩ := h
    rfl
  · obtain ⟨a, v, rfl, ha, k⟩ := h
    refine ⟨_, (pss_one (ps_ostG (B := "ValueError") (newId := "ValueError.__new__") (initId := "ValueError.__init__") (bmB := [Value.type "ValueError", Value.type "Exception", Value.type "BaseException", Value.type "object"]) (pv 0) (pv 1))), ?_⟩
    exact ⟨_, rfl, _, rfl, a, T.E_NotLooks, rfl, T.ox_NotLooks, T.no_NotLooks_given, ha, fun dx nd hne => k dx nd hne⟩
theorem ok_OtherThingsD_initD (T : Tx K mg) : FnOk P w K mg base CX0 1 T.a_OtherThingsD_initD T.fd_OtherThingsD_initD ["self", "given"] (spErr T.E_OtherThings "given") := by
  refine T.F_OtherThingsD_initD.ok sc_OtherThingsD_initD (fun vs H Q E h => ?_) (fun cdv A outer s H vs Q E hr h => ?_)
  · obtain ⟨a, v, rfl, _⟩ := h
    rfl
  · obtain ⟨a, v, rfl, ha, k⟩ := h
    refine ⟨_, (pss_one (ps_ostG (B := "ValueError") (newId := "ValueError.__new__") (initId := "ValueError.__init__") (bmB := [Value.type "ValueError", Value.type "Exception", Value.type "BaseException", Value.type "object"]) (pv 0) (pv 1))), ?_⟩
    exact ⟨_, rfl, _, rfl, a, T.E_OtherThings, rfl, T.ox_OtherThings, T.no_OtherThings_given, ha, fun dx nd hne => k dx nd hne⟩
theorem ok_UnknownThingD_initD (T : Tx K mg) : FnOk P w K mg base CX0 1 T.a_UnknownThingD_initD T.fd_UnknownThingD_initD ["self", "given"] (spErr T.E_UnknownThing "given") := by
  refine T.F_UnknownThingD_initD.ok sc_UnknownThingD_initD (fun vs H Q E h => ?_) (fun cdv A outer s H vs Q E hr h => ?_)
  · obtain ⟨a, v, rfl, _⟩ := h
    rfl
  · obtain ⟨a, v, rfl, ha, k⟩ := h
    refine ⟨_, (pss_one (ps_ostG (B := "LookupError") (newId := "LookupError.__new__") (initId := "LookupError.__init__") (bmB := [Value.type "LookupError", Value.type "Exception", Value.type "BaseException", Value.type "object"]) (pv 0) (pv 1))), ?_⟩
    exact ⟨_, rfl, _, rfl, a, T.E_UnknownThing, rfl, T.ox_UnknownThing, T.no_UnknownThing_given, ha, fun dx nd hne => k dx nd hne⟩
theorem ok_InvalidRowD_initD (T : Tx K mg) : FnOk P w K mg base CX0 1 T.a_InvalidRowD_initD T.fd_InvalidRowD_initD ["self", "index"] (spErr T.E_InvalidRow "index") := by
  refine T.F_InvalidRowD_initD.ok sc_InvalidRowD_initD (fun vs H Q E h => ?_) (fun cdv A outer s H vs Q E hr h => ?_)
  · obtain ⟨a, v, rfl, _⟩ := h
    rfl
  · obtain ⟨a, v, rfl, ha, k⟩ := h
    refine ⟨_, (pss_one (ps_ostG (B := "ValueError") (newId := "ValueError.__new__") (initId := "ValueError.__init__") (bmB := [Value.type "ValueError", Value.type "Exception", Value.type "BaseException", Value.type "object"]) (pv 0) (pv 1))), ?_⟩
    exact ⟨_, rfl, _, rfl, a, T.E_InvalidRow, rfl, T.ox_InvalidRow, T.no_InvalidRow_index, ha, fun dx nd hne => k dx nd hne⟩
theorem ok_InvalidMenuD_initD (T : Tx K mg) : FnOk P w K mg base CX0 1 T.a_InvalidMenuD_initD T.fd_InvalidMenuD_initD ["self", "index"] (spErr T.E_InvalidMenu "index") := by
  refine T.F_InvalidMenuD_initD.ok sc_InvalidMenuD_initD (fun vs H Q E h => ?_) (fun cdv A outer s H vs Q E hr h => ?_)
  · obtain ⟨a, v, rfl, _⟩ := h
    rfl
  · obtain ⟨a, v, rfl, ha, k⟩ := h
    refine ⟨_, (pss_one (ps_ostG (B := "ValueError") (newId := "ValueError.__new__") (initId := "ValueError.__init__") (bmB := [Value.type "ValueError", Value.type "Exception", Value.type "BaseException", Value.type "object"]) (pv 0) (pv 1))), ?_⟩
    exact ⟨_, rfl, _, rfl, a, T.E_InvalidMenu, rfl, T.ox_InvalidMenu, T.no_InvalidMenu_index, ha, fun dx nd hne => k dx nd hne⟩
theorem ok_InvalidThingsD_initD (T : Tx K mg) : FnOk P w K mg base CX0 1 T.a_InvalidThingsD_initD T.fd_InvalidThingsD_initD ["self", "index"] (spErr T.E_InvalidThings "index") := by
  refine T.F_InvalidThingsD_initD.ok sc_InvalidThingsD_initD (fun vs H Q E h => ?_) (fun cdv A outer s H vs Q E hr h => ?_)
  · obtain ⟨a, v, rfl, _⟩ := h
    rfl
  · obtain ⟨a, v, rfl, ha, k⟩ := h
    refine ⟨_, (pss_one (ps_ostG (B := "ValueError") (newId := "ValueError.__new__") (initId := "ValueError.__init__") (bmB := [Value.type "ValueError", Value.type "Exception", Value.type "BaseException", Value.type "object"]) (pv 0) (pv 1))), ?_⟩
    exact ⟨_, rfl, _, rfl, a, T.E_InvalidThings, rfl, T.ox_InvalidThings, T.no_InvalidThings_index, ha, fun dx nd hne => k dx nd hne⟩
theorem ok_InvalidTakenD_initD (T : Tx K mg) : FnOk P w K mg base CX0 1 T.a_InvalidTakenD_initD T.fd_InvalidTakenD_initD ["self", "index"] (spErr T.E_InvalidTaken "index") := by
  refine T.F_InvalidTakenD_initD.ok sc_InvalidTakenD_initD (fun vs H Q E h => ?_) (fun cdv A outer s H vs Q E hr h => ?_)
  · obtain ⟨a, v, rfl, _⟩ := h
    rfl
  · obtain ⟨a, v, rfl, ha, k⟩ := h
    refine ⟨_, (pss_one (ps_ostG (B := "ValueError") (newId := "ValueError.__new__") (initId := "ValueError.__init__") (bmB := [Value.type "ValueError", Value.type "Exception", Value.type "BaseException", Value.type "object"]) (pv 0) (pv 1))), ?_⟩
    exact ⟨_, rfl, _, rfl, a, T.E_InvalidTaken, rfl, T.ox_InvalidTaken, T.no_InvalidTaken_index, ha, fun dx nd hne => k dx nd hne⟩
theorem ok_InvalidRankingsD_initD (T : Tx K mg) : FnOk P w K mg base CX0 1 T.a_InvalidRankingsD_initD T.fd_InvalidRankingsD_initD ["self", "index"] (spErr T.E_InvalidRankings "index") := by
  refine T.F_InvalidRankingsD_initD.ok sc_InvalidRankingsD_initD (fun vs H Q E h => ?_) (fun cdv A outer s H vs Q E hr h => ?_)
  · obtain ⟨a, v, rfl, _⟩ := h
    rfl
  · obtain ⟨a, v, rfl, ha, k⟩ := h
    refine ⟨_, (pss_one (ps_ostG (B := "ValueError") (newId := "ValueError.__new__") (initId := "ValueError.__init__") (bmB := [Value.type "ValueError", Value.type "Exception", Value.type "BaseException", Value.type "object"]) (pv 0) (pv 1))), ?_⟩
    exact ⟨_, rfl, _, rfl, a, T.E_InvalidRankings, rfl, T.ox_InvalidRankings, T.no_InvalidRankings_index, ha, fun dx nd hne => k dx nd hne⟩
theorem ok_InvalidLooksD_initD (T : Tx K mg) : FnOk P w K mg base CX0 1 T.a_InvalidLooksD_initD T.fd_InvalidLooksD_initD ["self", "index"] (spErr T.E_InvalidLooks "index") := by
  refine T.F_InvalidLooksD_initD.ok sc_InvalidLooksD_initD (fun vs H Q E h => ?_) (fun cdv A outer s H vs Q E hr h => ?_)
  · obtain ⟨a, v, rfl, _⟩ := h
    rfl
  · obtain ⟨a, v, rfl, ha, k⟩ := h
    refine ⟨_, (pss_one (ps_ostG (B := "ValueError") (newId := "ValueError.__new__") (initId := "ValueError.__init__") (bmB := [Value.type "ValueError", Value.type "Exception", Value.type "BaseException", Value.type "object"]) (pv 0) (pv 1))), ?_⟩
    exact ⟨_, rfl, _, rfl, a, T.E_InvalidLooks, rfl, T.ox_InvalidLooks, T.no_InvalidLooks_index, ha, fun dx nd hne => k dx nd hne⟩
theorem ok_InvalidTableD_initD (T : Tx K mg) : FnOk P w K mg base CX0 1 T.a_InvalidTableD_initD T.fd_InvalidTableD_initD ["self", "index"] (spErr T.E_InvalidTable "index") := by
  refine T.F_InvalidTableD_initD.ok sc_InvalidTableD_initD (fun vs H Q E h => ?_) (fun cdv A outer s H vs Q E hr h => ?_)
  · obtain ⟨a, v, rfl, _⟩ := h
    rfl
  · obtain ⟨a, v, rfl, ha, k⟩ := h
    refine ⟨_, (pss_one (ps_ostG (B := "ValueError") (newId := "ValueError.__new__") (initId := "ValueError.__init__") (bmB := [Value.type "ValueError", Value.type "Exception", Value.type "BaseException", Value.type "object"]) (pv 0) (pv 1))), ?_⟩
    exact ⟨_, rfl, _, rfl, a, T.E_InvalidTable, rfl, T.ox_InvalidTable, T.no_InvalidTable_index, ha, fun dx nd hne => k dx nd hne⟩
theorem ok_ClashD_initD (T : Tx K mg) : FnOk P w K mg base CX0 1 T.a_ClashD_initD T.fd_ClashD_initD ["self", "index"] (spErr T.E_Clash "index") := by
  refine T.F_ClashD_initD.ok sc_ClashD_initD (fun vs H Q E h => ?_) (fun cdv A outer s H vs Q E hr h => ?_)
  · obtain ⟨a, v, rfl, _⟩ := h
    rfl
  · obtain ⟨a, v, rfl, ha, k⟩ := h
    refine ⟨_, (pss_one (ps_ostG (B := "ArithmeticError") (newId := "ArithmeticError.__new__") (initId := "ArithmeticError.__init__") (bmB := [Value.type "ArithmeticError", Value.type "Exception", Value.type "BaseException", Value.type "object"]) (pv 0) (pv 1))), ?_⟩
    exact ⟨_, rfl, _, rfl, a, T.E_Clash, rfl, T.ox_Clash, T.no_Clash_index, ha, fun dx nd hne => k dx nd hne⟩
theorem ok_BrokenD_initD (T : Tx K mg) : FnOk P w K mg base CX0 1 T.a_BrokenD_initD T.fd_BrokenD_initD ["self", "index"] (spErr T.E_Broken "index") := by
  refine T.F_BrokenD_initD.ok sc_BrokenD_initD (fun vs H Q E h => ?_) (fun cdv A outer s H vs Q E hr h => ?_)
  · obtain ⟨a, v, rfl, _⟩ := h
    rfl
  · obtain ⟨a, v, rfl, ha, k⟩ := h
    refine ⟨_, (pss_one (ps_ostG (B := "ArithmeticError") (newId := "ArithmeticError.__new__") (initId := "ArithmeticError.__init__") (bmB := [Value.type "ArithmeticError", Value.type "Exception", Value.type "BaseException", Value.type "object"]) (pv 0) (pv 1))), ?_⟩
    exact ⟨_, rfl, _, rfl, a, T.E_Broken, rfl, T.ox_Broken, T.no_Broken_index, ha, fun dx nd hne => k dx nd hne⟩
theorem ok_TooManyD_initD (T : Tx K mg) : FnOk P w K mg base CX0 1 T.a_TooManyD_initD T.fd_TooManyD_initD ["self", "number"] (spErr T.E_TooMany "number") := by
  refine T.F_TooManyD_initD.ok sc_TooManyD_initD (fun vs H Q E h => ?_) (fun cdv A outer s H vs Q E hr h => ?_)
  · obtain ⟨a, v, rfl, _⟩ := h
    rfl
  · obtain ⟨a, v, rfl, ha, k⟩ := h
    refine ⟨_, (pss_one (ps_ostG (B := "ArithmeticError") (newId := "ArithmeticError.__new__") (initId := "ArithmeticError.__init__") (bmB := [Value.type "ArithmeticError", Value.type "Exception", Value.type "BaseException", Value.type "object"]) (pv 0) (pv 1))), ?_⟩
    exact ⟨_, rfl, _, rfl, a, T.E_TooMany, rfl, T.ox_TooMany, T.no_TooMany_number, ha, fun dx nd hne => k dx nd hne⟩
theorem ok_NoHouseD_initD (T : Tx K mg) : FnOk P w K mg base CX0 1 T.a_NoHouseD_initD T.fd_NoHouseD_initD ["self", "menu"] (spErr T.E_NoHouse "menu") := by
  refine T.F_NoHouseD_initD.ok sc_NoHouseD_initD (fun vs H Q E h => ?_) (fun cdv A outer s H vs Q E hr h => ?_)
  · obtain ⟨a, v, rfl, _⟩ := h
    rfl
  · obtain ⟨a, v, rfl, ha, k⟩ := h
    refine ⟨_, (pss_one (ps_ostG (B := "ArithmeticError") (newId := "ArithmeticError.__new__") (initId := "ArithmeticError.__init__") (bmB := [Value.type "ArithmeticError", Value.type "Exception", Value.type "BaseException", Value.type "object"]) (pv 0) (pv 1))), ?_⟩
    exact ⟨_, rfl, _, rfl, a, T.E_NoHouse, rfl, T.ox_NoHouse, T.no_NoHouse_menu, ha, fun dx nd hne => k dx nd hne⟩
theorem ok_NoTableD_initD (T : Tx K mg) : FnOk P w K mg base CX0 1 T.a_NoTableD_initD T.fd_NoTableD_initD ["self", "first", "second"] (spErr2 T.E_NoTable "first" "second") := by
  refine T.F_NoTableD_initD.ok sc_NoTableD_initD (fun vs H Q E h => ?_) (fun cdv A outer s H vs Q E hr h => ?_)
  · obtain ⟨a, v, w, rfl, _⟩ := h
    rfl
  · obtain ⟨a, v, w, rfl, ha, k⟩ := h
    refine ⟨_, (pss_cons (ps_ostG (B := "ArithmeticError") (newId := "ArithmeticError.__new__") (initId := "ArithmeticError.__init__") (bmB := [Value.type "ArithmeticError", Value.type "Exception", Value.type "BaseException", Value.type "object"]) (pv 0) (pv 1))
      (pss_one (ps_ostG2 (B := "ArithmeticError") (newId := "ArithmeticError.__new__") (initId := "ArithmeticError.__init__") (bmB := [Value.type "ArithmeticError", Value.type "Exception", Value.type "BaseException", Value.type "object"]) (pv 0) (pv 2)))), ?_⟩
    refine ⟨_, rfl, _, rfl, a, T.E_NoTable, rfl, T.ox_NoTable, T.no_NoTable_first, ha, fun dx nd hne => ?_⟩
    refine ⟨_, rfl, _, rfl, a, T.E_NoTable, dx, _, rfl, T.ox_NoTable, T.no_NoTable_second, upd_same, ?_, (by show 1 ≤ 900; decide), k dx nd hne⟩
    rw [upd_ne hne, upd_same]
end
end MH
namespace MH
open PySem PySem.Spec PyProof.Rows L2
theorem cutV_mem {xs : List V} {lo hi : Option Int} {x : V} (h : x ∈ cutV xs lo hi) : x ∈ xs := List.mem_of_mem_drop (List.mem_of_mem_take h)
def spPurse (K : PySem.W.Frag) : Sp := fun vs H Q _ => ∃ (a : Addr) (ns : List Int) (i : Nat), vs = [.ref a, .int i] ∧ SqL K H a (ns.map V.int) ∧ ns.length ≤ 63 ∧ i < 1000 ∧ ∀ H' p, Same H H' → H p = none → Pu H' p → Q (.ref p) H'
section
variable {P : Program} {w : World} {K : PySem.W.Frag} {mg : Str → Option Value} {base : Heap}
theorem ok_l_purse (T : Tx K mg) : FnOk P w K mg base CX0 1 T.a_l_purse T.fd_l_purse ["_law_script", "_law_spot"] (spPurse K) := by
  refine T.F_l_purse.ok sc_l_purse (fun vs H Q E h => ?_) (fun cdv A outer s H vs Q E hr h => ?_)
  · obtain ⟨a, ns, i, rfl, _⟩ := h
    rfl
  · obtain ⟨a, ns, i, rfl, hS, hlen, hi, k⟩ := h
    refine ⟨_, (pss_cons (ps_set (i := 2) sc_l_purse.nd rfl (Or.inl rfl) (pe_ifExp (pt_cmpR op_lt (pv 1) (pe_callB call_len_seq (by rfl) T.n_len (by decide +kernel) (pa_cons (pv 0) pa_nil)) (nomark _)) (pe_ix ix_list (pv 0) (pv 1) (fun _ _ => rfl)) (pe_op op_mul pe_int (pe_op op_add (pv 1) pe_int))))
      (pss_cons (ps_set (i := 3) sc_l_purse.nd rfl (Or.inl rfl) (pe_op op_add pe_int (pv 1)))
      (pss_cons (ps_for PassesOwn.never rfl (pi_list (pe_op op_cat (pe_slice sl_list (pv 0) po_none (po_some pe_int)) (pe_lst (pa_cons (pv 2) pa_nil)))) (pg_name (i := 4) sc_l_purse.nd rfl (Or.inl rfl))
        (pss_one (ps_set (i := 3) sc_l_purse.nd rfl (Or.inl rfl) (pe_op op_mod (pe_callTy call_int1 (by rfl) T.n_int (by decide +kernel) (pa_cons (pe_op op_add (pe_op op_add (pe_op op_mul (pv 3) pe_int) (pe_op op_mod (pe_callTy call_int1 (by rfl) T.n_int (by decide +kernel) (pa_cons (pv 4) pa_nil)) pe_int)) pe_int) pa_nil)) pe_int))))
      (pss_one (ps_ret (pe_lst (pa_cons (pe_ifExp (pt_cmpR op_ge (pe_callB call_abs (by rfl) T.n_abs (by decide +kernel) (pa_cons (pv 2) pa_nil)) (pe_op op_pow pe_int pe_int) (nomark _)) (pe_callB call_abs (by rfl) T.n_abs (by decide +kernel) (pa_cons (pv 2) pa_nil)) pe_int) (pa_cons (pv 3) pa_nil)))))))), ?_⟩
    refine ⟨_, rfl, _, rfl, a, _, rfl, .inl hS, _, _, rfl, rfl, _, rfl, ?_⟩
    refine ite2 (fun c => ?a1) (fun c => ?a2)
    case' a1 =>
      have c : (i : Int) < ((ns.map V.int).length : Nat) := of_decide_eq_true c
      have c2 : i < ns.length := by
        rw [List.length_map] at c
        omega
      have g : (ns.map V.int)[i]? = some (.int ns[i]) := by
        rw [List.getElem?_map, List.getElem?_eq_getElem c2]
        rfl
      refine ⟨_, rfl, _, rfl, a, _, _, _, rfl, rfl, hS, atI_nat g, ?_⟩
      generalize ns[i] = z
    case' a2 =>
      refine ⟨_, rfl, _, _, rfl, rfl, _, _, rfl, rfl, .inl ⟨by decide, by decide⟩, ?_⟩
      show gName 2 (V.int ((7919 : Int) * ((i : Int) + 5))) _ _ _
      generalize (7919 : Int) * ((i : Int) + 5) = z
    all_goals
      refine ⟨_, rfl, _, _, rfl, rfl, ?_⟩
      refine ⟨_, rfl, 5, rfl, a, _, rfl, hS, fun p np => ?_⟩
      refine ⟨_, rfl, (by show 1 ≤ sizeLine; decide), fun q nq => ?_⟩
      have npq : p ≠ q := fun e => by
        rw [e, upd_same] at nq
        cases nq
      refine ⟨p, q, _, _, rfl, rfl, (by rw [upd_ne npq]; exact upd_same), upd_same, le_line ?_, fun r nr => ?_⟩
      · have q1 := cutV_length (ns.map V.int) none (some 5)
        rw [List.length_map] at q1
        show (cutV (ns.map V.int) none (some 5)).length + 1 ≤ 100000
        omega
      have s1 := ((Same.new np).new' nq).new' nr (o := .lst (cutV (ns.map V.int) none (some 5) ++ [V.int z]))
      refine ⟨r, rfl, ⟨_, lst_of upd_same⟩, for_list (K := K) (a := r) (xs := cutV (ns.map V.int) none (some 5) ++ [V.int z]) (fun j σ H' => ∃ (y : Int) (v : Option V), σ = [some (.ref a), some (.int i), some (.int z), some (.int y), v] ∧ 0 ≤ y ∧ y < 2147483647 ∧ Same H H' ∧ H' r = some (.lst (cutV (ns.map V.int) none (some 5) ++ [V.int z])))
        ⟨(211 : Int) + i, none, rfl, by omega, by omega, s1, upd_same⟩ (fun j σ H' _ ⟨_, _, _, _, _, _, hL⟩ => lst_of hL) ?_ ?_⟩
      · rintro j x σ H' hx ⟨y, v, rfl, h0, h1, s2, hL⟩
        obtain ⟨n, rfl⟩ : ∃ n, x = V.int n := by
          rcases List.mem_append.mp (List.mem_of_getElem? hx) with m | m
          · obtain ⟨n, _, e⟩ := List.mem_map.mp (cutV_mem m)
            exact ⟨n, e.symm⟩
          · exact ⟨z, List.mem_singleton.mp m⟩
        refine ⟨_, rfl, _, _, rfl, rfl, .inl ⟨by omega, by omega⟩, _, rfl, .inl ⟨_, rfl, _, _, rfl, rfl, (by show (0 : Int) < 2147483647; decide), _, _, rfl, rfl, _, _, rfl, rfl, .inl ⟨_, rfl, _, _, rfl, rfl, (by show (0 : Int) < 2147483647; decide), ?_⟩⟩⟩
        exact ⟨_, _, rfl, Int.emod_nonneg _ (by decide), Int.emod_lt_of_pos _ (by decide), s2, hL⟩
      · rintro σ H' ⟨y, v, rfl, h0, h1, s2, hL⟩
        refine ⟨_, rfl, _, rfl, _, _, rfl, rfl, ⟨by decide, by decide, by decide⟩, _, _, rfl, rfl, _, rfl, ?_⟩
        refine ite2 (fun c => ?_) (fun c => ?_)
        · refine ⟨_, rfl, _, rfl, _, rfl, (by show 2 ≤ sizeLine; decide), fun t nt => ?_⟩
          refine k _ _ (s2.new' nt) (s2.free nt) ⟨_, _, upd_same, ?_, h0, h1⟩
          split <;> omega
        · refine ⟨_, rfl, (by show 2 ≤ sizeLine; decide), fun t nt => ?_⟩
          exact k _ _ (s2.new' nt) (s2.free nt) ⟨_, _, upd_same, by omega, h0, h1⟩
end
end MH
namespace MH
open PySem PySem.Spec PyProof.Rows L2
def csG {K : PySem.W.Frag} {mg : Str → Option Value} (T : Tx K mg) : List Addr := [T.E_InvalidText, T.E_InvalidMarks, T.E_InvalidIndex, T.E_InvalidWord, T.E_NotARanking, T.E_NotAHouse, T.E_NotALook, T.E_NotLooks, T.E_OtherThings, T.E_UnknownThing]
def csI {K : PySem.W.Frag} {mg : Str → Option Value} (T : Tx K mg) : List Addr := [T.E_InvalidRow, T.E_InvalidMenu, T.E_InvalidThings, T.E_InvalidTaken, T.E_InvalidRankings, T.E_InvalidLooks, T.E_InvalidTable, T.E_Clash, T.E_Broken]
def spPairs (K : PySem.W.Frag) (f : Str) (cs : List Addr) : Sp := fun vs H Q _ => ∃ v : V, vs = [v] ∧ ∀ p ys H', Same H H' → H' p = some (.lst ys) → Paired (fun y C => PairV K H' y C [(f, v)]) ys cs → Q (.ref p) H'
theorem two_new {H H4 : Hp} {q r : Addr} {ys zs : List V} (s : Same H H4) (nq : H4 q = none) (nr : (upd H4 q (.lst zs)) r = none) : Same H4 (upd (upd H4 q (.lst zs)) r (.lst ys)) ∧ (upd (upd H4 q (.lst zs)) r (.lst ys)) r = some (.lst ys) := ⟨(Same.new nq).new' nr, upd_same⟩
section
variable {P : Program} {w : World} {K : PySem.W.Frag} {mg : Str → Option Value} {base : Heap}
theorem ok_l_given (T : Tx K mg) : FnOk P w K mg base CX0 3 T.a_l_given T.fd_l_given ["_law_one"] (spPairs K "given" (csG T)) := by
  refine T.F_l_given.ok sc_l_given (fun vs H Q E h => ?_) (fun cdv A outer s H0 vs Q E hr h => ?_)
  · obtain ⟨v, rfl, _⟩ := h
    rfl
  · obtain ⟨v, rfl, k⟩ := h
    refine ⟨_, (pss_cons (ps_set (i := 1) sc_l_given.nd rfl (Or.inl rfl) (pe_lst (pa_cons (PE.weak (t' := tPair K T.E_InvalidText "given" 0) (pe_tup (pa_cons (pe_mkV T.ox_InvalidText T.ic_InvalidText T.ti_InvalidText (ok_InvalidTextD_initD T) (hr.mono (by decide)) T.b_InvalidTextD_initD pass0 rfl T.g_InvalidText (pa_cons (pv 0) pa_nil)) (pa_cons (pe_mkVK T.ox_InvalidText T.ic_InvalidText T.ti_InvalidText (ok_InvalidTextD_initD T) (hr.mono (by decide)) T.kb_InvalidTextD_initD pass0 rfl T.g_InvalidText (pk_cons (pv 0) pk_nil)) pa_nil))) (fun σ H Q h => pair_weak h)) (pa_cons (PE.weak (t' := tPair K T.E_InvalidMarks "given" 0) (pe_tup (pa_cons (pe_mkV T.ox_InvalidMarks T.ic_InvalidMarks T.ti_InvalidMarks (ok_InvalidMarksD_initD T) (hr.mono (by decide)) T.b_InvalidMarksD_initD pass0 rfl T.g_InvalidMarks (pa_cons (pv 0) pa_nil)) (pa_cons (pe_mkVK T.ox_InvalidMarks T.ic_InvalidMarks T.ti_InvalidMarks (ok_InvalidMarksD_initD T) (hr.mono (by decide)) T.kb_InvalidMarksD_initD pass0 rfl T.g_InvalidMarks (pk_cons (pv 0) pk_nil)) pa_nil))) (fun σ H Q h => pair_weak h)) pa_nil))))
      (pss_cons (ps_set (i := 1) sc_l_given.nd rfl (Or.inl rfl) (pe_op op_cat (pv 1) (pe_lst (pa_cons (PE.weak (t' := tPair K T.E_InvalidIndex "given" 0) (pe_tup (pa_cons (pe_mkV T.ox_InvalidIndex T.ic_InvalidIndex T.ti_InvalidIndex (ok_InvalidIndexD_initD T) (hr.mono (by decide)) T.b_InvalidIndexD_initD pass0 rfl T.g_InvalidIndex (pa_cons (pv 0) pa_nil)) (pa_cons (pe_mkVK T.ox_InvalidIndex T.ic_InvalidIndex T.ti_InvalidIndex (ok_InvalidIndexD_initD T) (hr.mono (by decide)) T.kb_InvalidIndexD_initD pass0 rfl T.g_InvalidIndex (pk_cons (pv 0) pk_nil)) pa_nil))) (fun σ H Q h => pair_weak h)) (pa_cons (PE.weak (t' := tPair K T.E_InvalidWord "given" 0) (pe_tup (pa_cons (pe_mkV T.ox_InvalidWord T.ic_InvalidWord T.ti_InvalidWord (ok_InvalidWordD_initD T) (hr.mono (by decide)) T.b_InvalidWordD_initD pass0 rfl T.g_InvalidWord (pa_cons (pv 0) pa_nil)) (pa_cons (pe_mkVK T.ox_InvalidWord T.ic_InvalidWord T.ti_InvalidWord (ok_InvalidWordD_initD T) (hr.mono (by decide)) T.kb_InvalidWordD_initD pass0 rfl T.g_InvalidWord (pk_cons (pv 0) pk_nil)) pa_nil))) (fun σ H Q h => pair_weak h)) pa_nil)))))
      (pss_cons (ps_set (i := 1) sc_l_given.nd rfl (Or.inl rfl) (pe_op op_cat (pv 1) (pe_lst (pa_cons (PE.weak (t' := tPair K T.E_NotARanking "given" 0) (pe_tup (pa_cons (pe_mkV T.ox_NotARanking T.ic_NotARanking T.ti_NotARanking (ok_NotARankingD_initD T) (hr.mono (by decide)) T.b_NotARankingD_initD pass0 rfl T.g_NotARanking (pa_cons (pv 0) pa_nil)) (pa_cons (pe_mkVK T.ox_NotARanking T.ic_NotARanking T.ti_NotARanking (ok_NotARankingD_initD T) (hr.mono (by decide)) T.kb_NotARankingD_initD pass0 rfl T.g_NotARanking (pk_cons (pv 0) pk_nil)) pa_nil))) (fun σ H Q h => pair_weak h)) (pa_cons (PE.weak (t' := tPair K T.E_NotAHouse "given" 0) (pe_tup (pa_cons (pe_mkV T.ox_NotAHouse T.ic_NotAHouse T.ti_NotAHouse (ok_NotAHouseD_initD T) (hr.mono (by decide)) T.b_NotAHouseD_initD pass0 rfl T.g_NotAHouse (pa_cons (pv 0) pa_nil)) (pa_cons (pe_mkVK T.ox_NotAHouse T.ic_NotAHouse T.ti_NotAHouse (ok_NotAHouseD_initD T) (hr.mono (by decide)) T.kb_NotAHouseD_initD pass0 rfl T.g_NotAHouse (pk_cons (pv 0) pk_nil)) pa_nil))) (fun σ H Q h => pair_weak h)) pa_nil)))))
      (pss_cons (ps_set (i := 1) sc_l_given.nd rfl (Or.inl rfl) (pe_op op_cat (pv 1) (pe_lst (pa_cons (PE.weak (t' := tPair K T.E_NotALook "given" 0) (pe_tup (pa_cons (pe_mkV T.ox_NotALook T.ic_NotALook T.ti_NotALook (ok_NotALookD_initD T) (hr.mono (by decide)) T.b_NotALookD_initD pass0 rfl T.g_NotALook (pa_cons (pv 0) pa_nil)) (pa_cons (pe_mkVK T.ox_NotALook T.ic_NotALook T.ti_NotALook (ok_NotALookD_initD T) (hr.mono (by decide)) T.kb_NotALookD_initD pass0 rfl T.g_NotALook (pk_cons (pv 0) pk_nil)) pa_nil))) (fun σ H Q h => pair_weak h)) (pa_cons (PE.weak (t' := tPair K T.E_NotLooks "given" 0) (pe_tup (pa_cons (pe_mkV T.ox_NotLooks T.ic_NotLooks T.ti_NotLooks (ok_NotLooksD_initD T) (hr.mono (by decide)) T.b_NotLooksD_initD pass0 rfl T.g_NotLooks (pa_cons (pv 0) pa_nil)) (pa_cons (pe_mkVK T.ox_NotLooks T.ic_NotLooks T.ti_NotLooks (ok_NotLooksD_initD T) (hr.mono (by decide)) T.kb_NotLooksD_initD pass0 rfl T.g_NotLooks (pk_cons (pv 0) pk_nil)) pa_nil))) (fun σ H Q h => pair_weak h)) pa_nil)))))
      (pss_one (ps_ret (pe_op op_cat (pv 1) (pe_lst (pa_cons (PE.weak (t' := tPair K T.E_OtherThings "given" 0) (pe_tup (pa_cons (pe_mkV T.ox_OtherThings T.ic_OtherThings T.ti_OtherThings (ok_OtherThingsD_initD T) (hr.mono (by decide)) T.b_OtherThingsD_initD pass0 rfl T.g_OtherThings (pa_cons (pv 0) pa_nil)) (pa_cons (pe_mkVK T.ox_OtherThings T.ic_OtherThings T.ti_OtherThings (ok_OtherThingsD_initD T) (hr.mono (by decide)) T.kb_OtherThingsD_initD pass0 rfl T.g_OtherThings (pk_cons (pv 0) pk_nil)) pa_nil))) (fun σ H Q h => pair_weak h)) (pa_cons (PE.weak (t' := tPair K T.E_UnknownThing "given" 0) (pe_tup (pa_cons (pe_mkV T.ox_UnknownThing T.ic_UnknownThing T.ti_UnknownThing (ok_UnknownThingD_initD T) (hr.mono (by decide)) T.b_UnknownThingD_initD pass0 rfl T.g_UnknownThing (pa_cons (pv 0) pa_nil)) (pa_cons (pe_mkVK T.ox_UnknownThing T.ic_UnknownThing T.ti_UnknownThing (ok_UnknownThingD_initD T) (hr.mono (by decide)) T.kb_UnknownThingD_initD pass0 rfl T.g_UnknownThing (pk_cons (pv 0) pk_nil)) pa_nil))) (fun σ H Q h => pair_weak h)) pa_nil)))))))))), ?_⟩
    refine ⟨v, rfl, fun y1 H1 s1 p1 => ⟨v, rfl, fun y2 H2 s2 p2 => ⟨(by show 2 ≤ sizeLine; decide), fun q0 nq0 => ?_⟩⟩⟩
    have t0 : Same H2 (upd H2 q0 (.lst [y1, y2])) := Same.new nq0
    have r0 : (upd H2 q0 (.lst [y1, y2])) q0 = some (.lst [y1, y2]) := upd_same
    generalize upd H2 q0 (.lst [y1, y2]) = G0 at t0 r0 ⊢
    refine ⟨_, rfl, v, rfl, fun y3 H3 s3 p3 => ⟨v, rfl, fun y4 H4 s4 p4 => ⟨(by show 2 ≤ sizeLine; decide), fun q1 nq1 => ⟨q0, q1, [y1, y2], [y3, y4], rfl, rfl, (by rw [upd_ne (ne_of_none (s4 _ _ (s3 _ _ r0)) nq1)]; exact (s4 _ _ (s3 _ _ r0))), upd_same, (by show 4 ≤ sizeLine; decide), fun c1 nc1 => ?_⟩⟩⟩⟩
    obtain ⟨t1, r1⟩ := two_new (ys := [y1, y2] ++ [y3, y4]) (Same.refl H4) nq1 nc1
    generalize upd (upd H4 q1 (.lst [y3, y4])) c1 (.lst ([y1, y2] ++ [y3, y4])) = G1 at t1 r1 ⊢
    refine ⟨_, rfl, v, rfl, fun y5 H5 s5 p5 => ⟨v, rfl, fun y6 H6 s6 p6 => ⟨(by show 2 ≤ sizeLine; decide), fun q2 nq2 => ⟨c1, q2, [y1, y2, y3, y4], [y5, y6], rfl, rfl, (by rw [upd_ne (ne_of_none (s6 _ _ (s5 _ _ r1)) nq2)]; exact (s6 _ _ (s5 _ _ r1))), upd_same, (by show 6 ≤ sizeLine; decide), fun c2 nc2 => ?_⟩⟩⟩⟩
    obtain ⟨t2, r2⟩ := two_new (ys := [y1, y2, y3, y4] ++ [y5, y6]) (Same.refl H6) nq2 nc2
    generalize upd (upd H6 q2 (.lst [y5, y6])) c2 (.lst ([y1, y2, y3, y4] ++ [y5, y6])) = G2 at t2 r2 ⊢
    refine ⟨_, rfl, v, rfl, fun y7 H7 s7 p7 => ⟨v, rfl, fun y8 H8 s8 p8 => ⟨(by show 2 ≤ sizeLine; decide), fun q3 nq3 => ⟨c2, q3, [y1, y2, y3, y4, y5, y6], [y7, y8], rfl, rfl, (by rw [upd_ne (ne_of_none (s8 _ _ (s7 _ _ r2)) nq3)]; exact (s8 _ _ (s7 _ _ r2))), upd_same, (by show 8 ≤ sizeLine; decide), fun c3 nc3 => ?_⟩⟩⟩⟩
    obtain ⟨t3, r3⟩ := two_new (ys := [y1, y2, y3, y4, y5, y6] ++ [y7, y8]) (Same.refl H8) nq3 nc3
    generalize upd (upd H8 q3 (.lst [y7, y8])) c3 (.lst ([y1, y2, y3, y4, y5, y6] ++ [y7, y8])) = G3 at t3 r3 ⊢
    refine ⟨_, rfl, v, rfl, fun y9 H9 s9 p9 => ⟨v, rfl, fun y10 H10 s10 p10 => ⟨(by show 2 ≤ sizeLine; decide), fun q4 nq4 => ⟨c3, q4, [y1, y2, y3, y4, y5, y6, y7, y8], [y9, y10], rfl, rfl, (by rw [upd_ne (ne_of_none (s10 _ _ (s9 _ _ r3)) nq4)]; exact (s10 _ _ (s9 _ _ r3))), upd_same, (by show 10 ≤ sizeLine; decide), fun c4 nc4 => ?_⟩⟩⟩⟩
    obtain ⟨t4, r4⟩ := two_new (ys := [y1, y2, y3, y4, y5, y6, y7, y8] ++ [y9, y10]) (Same.refl H10) nq4 nc4
    generalize upd (upd H10 q4 (.lst [y9, y10])) c4 (.lst ([y1, y2, y3, y4, y5, y6, y7, y8] ++ [y9, y10])) = G4 at t4 r4 ⊢
    exact k c4 _ G4 ((((((((((((((s1.trans s2).trans t0).trans s3).trans s4).trans t1).trans s5).trans s6).trans t2).trans s7).trans s8).trans t3).trans s9).trans s10).trans t4) r4 (.cons (p1.same (((((((((((((s2.trans t0).trans s3).trans s4).trans t1).trans s5).trans s6).trans t2).trans s7).trans s8).trans t3).trans s9).trans s10).trans t4)) (.cons (p2.same ((((((((((((t0.trans s3).trans s4).trans t1).trans s5).trans s6).trans t2).trans s7).trans s8).trans t3).trans s9).trans s10).trans t4)) (.cons (p3.same ((((((((((s4.trans t1).trans s5).trans s6).trans t2).trans s7).trans s8).trans t3).trans s9).trans s10).trans t4)) (.cons (p4.same (((((((((t1.trans s5).trans s6).trans t2).trans s7).trans s8).trans t3).trans s9).trans s10).trans t4)) (.cons (p5.same (((((((s6.trans t2).trans s7).trans s8).trans t3).trans s9).trans s10).trans t4)) (.cons (p6.same ((((((t2.trans s7).trans s8).trans t3).trans s9).trans s10).trans t4)) (.cons (p7.same ((((s8.trans t3).trans s9).trans s10).trans t4)) (.cons (p8.same (((t3.trans s9).trans s10).trans t4)) (.cons (p9.same (s10.trans t4)) (.cons (p10.same t4) .nil))))))))))
theorem ok_l_index (T : Tx K mg) : FnOk P w K mg base CX0 3 T.a_l_index T.fd_l_index ["_law_one"] (spPairs K "index" (csI T)) := by
  refine T.F_l_index.ok sc_l_index (fun vs H Q E h => ?_) (fun cdv A outer s H0 vs Q E hr h => ?_)
  · obtain ⟨v, rfl, _⟩ := h
    rfl
  · obtain ⟨v, rfl, k⟩ := h
    refine ⟨_, (pss_cons (ps_set (i := 1) sc_l_index.nd rfl (Or.inl rfl) (pe_lst (pa_cons (PE.weak (t' := tPair K T.E_InvalidRow "index" 0) (pe_tup (pa_cons (pe_mkV T.ox_InvalidRow T.ic_InvalidRow T.ti_InvalidRow (ok_InvalidRowD_initD T) (hr.mono (by decide)) T.b_InvalidRowD_initD pass0 rfl T.g_InvalidRow (pa_cons (pv 0) pa_nil)) (pa_cons (pe_mkVK T.ox_InvalidRow T.ic_InvalidRow T.ti_InvalidRow (ok_InvalidRowD_initD T) (hr.mono (by decide)) T.kb_InvalidRowD_initD pass0 rfl T.g_InvalidRow (pk_cons (pv 0) pk_nil)) pa_nil))) (fun σ H Q h => pair_weak h)) (pa_cons (PE.weak (t' := tPair K T.E_InvalidMenu "index" 0) (pe_tup (pa_cons (pe_mkV T.ox_InvalidMenu T.ic_InvalidMenu T.ti_InvalidMenu (ok_InvalidMenuD_initD T) (hr.mono (by decide)) T.b_InvalidMenuD_initD pass0 rfl T.g_InvalidMenu (pa_cons (pv 0) pa_nil)) (pa_cons (pe_mkVK T.ox_InvalidMenu T.ic_InvalidMenu T.ti_InvalidMenu (ok_InvalidMenuD_initD T) (hr.mono (by decide)) T.kb_InvalidMenuD_initD pass0 rfl T.g_InvalidMenu (pk_cons (pv 0) pk_nil)) pa_nil))) (fun σ H Q h => pair_weak h)) pa_nil))))
      (pss_cons (ps_set (i := 1) sc_l_index.nd rfl (Or.inl rfl) (pe_op op_cat (pv 1) (pe_lst (pa_cons (PE.weak (t' := tPair K T.E_InvalidThings "index" 0) (pe_tup (pa_cons (pe_mkV T.ox_InvalidThings T.ic_InvalidThings T.ti_InvalidThings (ok_InvalidThingsD_initD T) (hr.mono (by decide)) T.b_InvalidThingsD_initD pass0 rfl T.g_InvalidThings (pa_cons (pv 0) pa_nil)) (pa_cons (pe_mkVK T.ox_InvalidThings T.ic_InvalidThings T.ti_InvalidThings (ok_InvalidThingsD_initD T) (hr.mono (by decide)) T.kb_InvalidThingsD_initD pass0 rfl T.g_InvalidThings (pk_cons (pv 0) pk_nil)) pa_nil))) (fun σ H Q h => pair_weak h)) (pa_cons (PE.weak (t' := tPair K T.E_InvalidTaken "index" 0) (pe_tup (pa_cons (pe_mkV T.ox_InvalidTaken T.ic_InvalidTaken T.ti_InvalidTaken (ok_InvalidTakenD_initD T) (hr.mono (by decide)) T.b_InvalidTakenD_initD pass0 rfl T.g_InvalidTaken (pa_cons (pv 0) pa_nil)) (pa_cons (pe_mkVK T.ox_InvalidTaken T.ic_InvalidTaken T.ti_InvalidTaken (ok_InvalidTakenD_initD T) (hr.mono (by decide)) T.kb_InvalidTakenD_initD pass0 rfl T.g_InvalidTaken (pk_cons (pv 0) pk_nil)) pa_nil))) (fun σ H Q h => pair_weak h)) pa_nil)))))
      (pss_cons (ps_set (i := 1) sc_l_index.nd rfl (Or.inl rfl) (pe_op op_cat (pv 1) (pe_lst (pa_cons (PE.weak (t' := tPair K T.E_InvalidRankings "index" 0) (pe_tup (pa_cons (pe_mkV T.ox_InvalidRankings T.ic_InvalidRankings T.ti_InvalidRankings (ok_InvalidRankingsD_initD T) (hr.mono (by decide)) T.b_InvalidRankingsD_initD pass0 rfl T.g_InvalidRankings (pa_cons (pv 0) pa_nil)) (pa_cons (pe_mkVK T.ox_InvalidRankings T.ic_InvalidRankings T.ti_InvalidRankings (ok_InvalidRankingsD_initD T) (hr.mono (by decide)) T.kb_InvalidRankingsD_initD pass0 rfl T.g_InvalidRankings (pk_cons (pv 0) pk_nil)) pa_nil))) (fun σ H Q h => pair_weak h)) (pa_cons (PE.weak (t' := tPair K T.E_InvalidLooks "index" 0) (pe_tup (pa_cons (pe_mkV T.ox_InvalidLooks T.ic_InvalidLooks T.ti_InvalidLooks (ok_InvalidLooksD_initD T) (hr.mono (by decide)) T.b_InvalidLooksD_initD pass0 rfl T.g_InvalidLooks (pa_cons (pv 0) pa_nil)) (pa_cons (pe_mkVK T.ox_InvalidLooks T.ic_InvalidLooks T.ti_InvalidLooks (ok_InvalidLooksD_initD T) (hr.mono (by decide)) T.kb_InvalidLooksD_initD pass0 rfl T.g_InvalidLooks (pk_cons (pv 0) pk_nil)) pa_nil))) (fun σ H Q h => pair_weak h)) pa_nil)))))
      (pss_cons (ps_set (i := 1) sc_l_index.nd rfl (Or.inl rfl) (pe_op op_cat (pv 1) (pe_lst (pa_cons (PE.weak (t' := tPair K T.E_InvalidTable "index" 0) (pe_tup (pa_cons (pe_mkV T.ox_InvalidTable T.ic_InvalidTable T.ti_InvalidTable (ok_InvalidTableD_initD T) (hr.mono (by decide)) T.b_InvalidTableD_initD pass0 rfl T.g_InvalidTable (pa_cons (pv 0) pa_nil)) (pa_cons (pe_mkVK T.ox_InvalidTable T.ic_InvalidTable T.ti_InvalidTable (ok_InvalidTableD_initD T) (hr.mono (by decide)) T.kb_InvalidTableD_initD pass0 rfl T.g_InvalidTable (pk_cons (pv 0) pk_nil)) pa_nil))) (fun σ H Q h => pair_weak h)) (pa_cons (PE.weak (t' := tPair K T.E_Clash "index" 0) (pe_tup (pa_cons (pe_mkV T.ox_Clash T.ic_Clash T.ti_Clash (ok_ClashD_initD T) (hr.mono (by decide)) T.b_ClashD_initD pass0 rfl T.g_Clash (pa_cons (pv 0) pa_nil)) (pa_cons (pe_mkVK T.ox_Clash T.ic_Clash T.ti_Clash (ok_ClashD_initD T) (hr.mono (by decide)) T.kb_ClashD_initD pass0 rfl T.g_Clash (pk_cons (pv 0) pk_nil)) pa_nil))) (fun σ H Q h => pair_weak h)) pa_nil)))))
      (pss_one (ps_ret (pe_op op_cat (pv 1) (pe_lst (pa_cons (PE.weak (t' := tPair K T.E_Broken "index" 0) (pe_tup (pa_cons (pe_mkV T.ox_Broken T.ic_Broken T.ti_Broken (ok_BrokenD_initD T) (hr.mono (by decide)) T.b_BrokenD_initD pass0 rfl T.g_Broken (pa_cons (pv 0) pa_nil)) (pa_cons (pe_mkVK T.ox_Broken T.ic_Broken T.ti_Broken (ok_BrokenD_initD T) (hr.mono (by decide)) T.kb_BrokenD_initD pass0 rfl T.g_Broken (pk_cons (pv 0) pk_nil)) pa_nil))) (fun σ H Q h => pair_weak h)) pa_nil))))))))), ?_⟩
    refine ⟨v, rfl, fun y1 H1 s1 p1 => ⟨v, rfl, fun y2 H2 s2 p2 => ⟨(by show 2 ≤ sizeLine; decide), fun q0 nq0 => ?_⟩⟩⟩
    have t0 : Same H2 (upd H2 q0 (.lst [y1, y2])) := Same.new nq0
    have r0 : (upd H2 q0 (.lst [y1, y2])) q0 = some (.lst [y1, y2]) := upd_same
    generalize upd H2 q0 (.lst [y1, y2]) = G0 at t0 r0 ⊢
    refine ⟨_, rfl, v, rfl, fun y3 H3 s3 p3 => ⟨v, rfl, fun y4 H4 s4 p4 => ⟨(by show 2 ≤ sizeLine; decide), fun q1 nq1 => ⟨q0, q1, [y1, y2], [y3, y4], rfl, rfl, (by rw [upd_ne (ne_of_none (s4 _ _ (s3 _ _ r0)) nq1)]; exact (s4 _ _ (s3 _ _ r0))), upd_same, (by show 4 ≤ sizeLine; decide), fun c1 nc1 => ?_⟩⟩⟩⟩
    obtain ⟨t1, r1⟩ := two_new (ys := [y1, y2] ++ [y3, y4]) (Same.refl H4) nq1 nc1
    generalize upd (upd H4 q1 (.lst [y3, y4])) c1 (.lst ([y1, y2] ++ [y3, y4])) = G1 at t1 r1 ⊢
    refine ⟨_, rfl, v, rfl, fun y5 H5 s5 p5 => ⟨v, rfl, fun y6 H6 s6 p6 => ⟨(by show 2 ≤ sizeLine; decide), fun q2 nq2 => ⟨c1, q2, [y1, y2, y3, y4], [y5, y6], rfl, rfl, (by rw [upd_ne (ne_of_none (s6 _ _ (s5 _ _ r1)) nq2)]; exact (s6 _ _ (s5 _ _ r1))), upd_same, (by show 6 ≤ sizeLine; decide), fun c2 nc2 => ?_⟩⟩⟩⟩
    obtain ⟨t2, r2⟩ := two_new (ys := [y1, y2, y3, y4] ++ [y5, y6]) (Same.refl H6) nq2 nc2
    generalize upd (upd H6 q2 (.lst [y5, y6])) c2 (.lst ([y1, y2, y3, y4] ++ [y5, y6])) = G2 at t2 r2 ⊢
    refine ⟨_, rfl, v, rfl, fun y7 H7 s7 p7 => ⟨v, rfl, fun y8 H8 s8 p8 => ⟨(by show 2 ≤ sizeLine; decide), fun q3 nq3 => ⟨c2, q3, [y1, y2, y3, y4, y5, y6], [y7, y8], rfl, rfl, (by rw [upd_ne (ne_of_none (s8 _ _ (s7 _ _ r2)) nq3)]; exact (s8 _ _ (s7 _ _ r2))), upd_same, (by show 8 ≤ sizeLine; decide), fun c3 nc3 => ?_⟩⟩⟩⟩
    obtain ⟨t3, r3⟩ := two_new (ys := [y1, y2, y3, y4, y5, y6] ++ [y7, y8]) (Same.refl H8) nq3 nc3
    generalize upd (upd H8 q3 (.lst [y7, y8])) c3 (.lst ([y1, y2, y3, y4, y5, y6] ++ [y7, y8])) = G3 at t3 r3 ⊢
    refine ⟨_, rfl, v, rfl, fun y9 H9 s9 p9 => ⟨(by show 1 ≤ sizeLine; decide), fun q4 nq4 => ⟨c3, q4, [y1, y2, y3, y4, y5, y6, y7, y8], [y9], rfl, rfl, (by rw [upd_ne (ne_of_none (s9 _ _ r3) nq4)]; exact (s9 _ _ r3)), upd_same, (by show 9 ≤ sizeLine; decide), fun c4 nc4 => ?_⟩⟩⟩
    obtain ⟨t4, r4⟩ := two_new (ys := [y1, y2, y3, y4, y5, y6, y7, y8] ++ [y9]) (Same.refl H9) nq4 nc4
    generalize upd (upd H9 q4 (.lst [y9])) c4 (.lst ([y1, y2, y3, y4, y5, y6, y7, y8] ++ [y9])) = G4 at t4 r4 ⊢
    exact k c4 _ G4 (((((((((((((s1.trans s2).trans t0).trans s3).trans s4).trans t1).trans s5).trans s6).trans t2).trans s7).trans s8).trans t3).trans s9).trans t4) r4 (.cons (p1.same ((((((((((((s2.trans t0).trans s3).trans s4).trans t1).trans s5).trans s6).trans t2).trans s7).trans s8).trans t3).trans s9).trans t4)) (.cons (p2.same (((((((((((t0.trans s3).trans s4).trans t1).trans s5).trans s6).trans t2).trans s7).trans s8).trans t3).trans s9).trans t4)) (.cons (p3.same (((((((((s4.trans t1).trans s5).trans s6).trans t2).trans s7).trans s8).trans t3).trans s9).trans t4)) (.cons (p4.same ((((((((t1.trans s5).trans s6).trans t2).trans s7).trans s8).trans t3).trans s9).trans t4)) (.cons (p5.same ((((((s6.trans t2).trans s7).trans s8).trans t3).trans s9).trans t4)) (.cons (p6.same (((((t2.trans s7).trans s8).trans t3).trans s9).trans t4)) (.cons (p7.same (((s8.trans t3).trans s9).trans t4)) (.cons (p8.same ((t3.trans s9).trans t4)) (.cons (p9.same t4) .nil)))))))))
end
end MH
namespace MH
open PySem PySem.Spec PyProof.Rows L2
def tests {K : PySem.W.Frag} {mg : Str → Option Value} (T : Tx K mg) : List Value := [.ref T.E_InvalidText, .ref T.E_InvalidMarks, .ref T.E_InvalidIndex, .ref T.E_InvalidWord, .ref T.E_NotARanking, .ref T.E_NotAHouse, .ref T.E_NotALook, .ref T.E_NotLooks, .ref T.E_OtherThings, .ref T.E_UnknownThing, .ref T.E_InvalidRow, .ref T.E_InvalidMenu, .ref T.E_InvalidThings, .ref T.E_InvalidTaken, .ref T.E_InvalidRankings, .ref T.E_InvalidLooks, .ref T.E_InvalidTable, .ref T.E_Clash, .ref T.E_Broken, .ref T.E_TooMany, .ref T.E_NoHouse, .ref T.E_NoTable, .ref T.E_NothingToUndo, .ref T.E_WrongValue, .ref T.E_WrongName, .ref T.E_NoAnswer, .type "ValueError", .type "LookupError", .type "ArithmeticError"]
/-- which of the tests hold of the class at C -/
def Row {K : PySem.W.Frag} {mg : Str → Option Value} (T : Tx K mg) (C : Addr) (b : Nat → Bool) : Prop := ∀ i, i < 29 → ((tests T).map (PySem.W.kitOne K (.ref C)))[i]? = some (some (b i))
def flagsOf (b : Nat → Bool) : List Bool := [b 0, b 1, b 2, b 3, b 4, b 5, b 6, b 7, b 8, b 9, b 10, b 11, b 12, b 13, b 14, b 15, b 16, b 17, b 18, b 19, b 20, b 21, b 22]
def basesOf (b : Nat → Bool) : List Bool := [b 23, b 24, b 25]
def basesOf2 (b : Nat → Bool) : List Bool := [b 26, b 27, b 28]
def spFlags {K : PySem.W.Frag} {mg : Str → Option Value} (T : Tx K mg) : Sp := fun vs H Q _ => ∃ (a C : Addr) (b : Nat → Bool), vs = [.ref a] ∧ ErC H a C ∧ ExcK K C ∧ Row T C b ∧ ∀ p H', Same H H' → H' p = some (.lst ((flagsOf b).map V.bl)) → Q (.ref p) H'
def spBases {K : PySem.W.Frag} {mg : Str → Option Value} (T : Tx K mg) : Sp := fun vs H Q _ => ∃ (a C : Addr) (b : Nat → Bool), vs = [.ref a] ∧ ErC H a C ∧ ExcK K C ∧ Row T C b ∧ ∀ p p1 p2 H', Same H H' → H' p = some (.lst [.ref p1, .ref p2]) → H' p1 = some (.lst ((basesOf b).map V.bl)) → H' p2 = some (.lst ((basesOf2 b).map V.bl)) → Q (.ref p) H'
section
variable {P : Program} {w : World} {K : PySem.W.Frag} {mg : Str → Option Value} {base : Heap}
theorem Row.at {T : Tx K mg} {C : Addr} {b : Nat → Bool} (r : Row T C b) (i : Nat) (h : i < 29) {c : Value} (e : (tests T)[i]? = some c) : PySem.W.kitOne K (.ref C) c = some (b i) := by
  have q := r i h
  rw [List.getElem?_map, e] at q
  exact Option.some.inj q
theorem ok_l_flags (T : Tx K mg) : FnOk P w K mg base CX0 1 T.a_l_flags T.fd_l_flags ["_law_e"] (spFlags T) := by
  refine T.F_l_flags.ok sc_l_flags (fun vs H Q E h => ?_) (fun cdv A outer s H0 vs Q E hr h => ?_)
  · obtain ⟨a, C, b, rfl, _⟩ := h
    rfl
  · obtain ⟨a, C, b, rfl, e0, ek, rb, k⟩ := h
    refine ⟨_, (pss_cons (ps_set (i := 1) sc_l_flags.nd rfl (Or.inl rfl) (pe_lst (pa_cons (pe_callB call_isV (by rfl) T.n_isinstance (by decide +kernel) (pa_cons (pv 0) (pa_cons (pe_glob (v := .ref T.E_InvalidText) rfl T.g_InvalidText rfl) pa_nil))) (pa_cons (pe_callB call_isV (by rfl) T.n_isinstance (by decide +kernel) (pa_cons (pv 0) (pa_cons (pe_glob (v := .ref T.E_InvalidMarks) rfl T.g_InvalidMarks rfl) pa_nil))) (pa_cons (pe_callB call_isV (by rfl) T.n_isinstance (by decide +kernel) (pa_cons (pv 0) (pa_cons (pe_glob (v := .ref T.E_InvalidIndex) rfl T.g_InvalidIndex rfl) pa_nil))) pa_nil)))))
      (pss_cons (ps_set (i := 1) sc_l_flags.nd rfl (Or.inl rfl) (pe_op op_cat (pv 1) (pe_lst (pa_cons (pe_callB call_isV (by rfl) T.n_isinstance (by decide +kernel) (pa_cons (pv 0) (pa_cons (pe_glob (v := .ref T.E_InvalidWord) rfl T.g_InvalidWord rfl) pa_nil))) (pa_cons (pe_callB call_isV (by rfl) T.n_isinstance (by decide +kernel) (pa_cons (pv 0) (pa_cons (pe_glob (v := .ref T.E_NotARanking) rfl T.g_NotARanking rfl) pa_nil))) (pa_cons (pe_callB call_isV (by rfl) T.n_isinstance (by decide +kernel) (pa_cons (pv 0) (pa_cons (pe_glob (v := .ref T.E_NotAHouse) rfl T.g_NotAHouse rfl) pa_nil))) pa_nil))))))
      (pss_cons (ps_set (i := 1) sc_l_flags.nd rfl (Or.inl rfl) (pe_op op_cat (pv 1) (pe_lst (pa_cons (pe_callB call_isV (by rfl) T.n_isinstance (by decide +kernel) (pa_cons (pv 0) (pa_cons (pe_glob (v := .ref T.E_NotALook) rfl T.g_NotALook rfl) pa_nil))) (pa_cons (pe_callB call_isV (by rfl) T.n_isinstance (by decide +kernel) (pa_cons (pv 0) (pa_cons (pe_glob (v := .ref T.E_NotLooks) rfl T.g_NotLooks rfl) pa_nil))) (pa_cons (pe_callB call_isV (by rfl) T.n_isinstance (by decide +kernel) (pa_cons (pv 0) (pa_cons (pe_glob (v := .ref T.E_OtherThings) rfl T.g_OtherThings rfl) pa_nil))) pa_nil))))))
      (pss_cons (ps_set (i := 1) sc_l_flags.nd rfl (Or.inl rfl) (pe_op op_cat (pv 1) (pe_lst (pa_cons (pe_callB call_isV (by rfl) T.n_isinstance (by decide +kernel) (pa_cons (pv 0) (pa_cons (pe_glob (v := .ref T.E_UnknownThing) rfl T.g_UnknownThing rfl) pa_nil))) (pa_cons (pe_callB call_isV (by rfl) T.n_isinstance (by decide +kernel) (pa_cons (pv 0) (pa_cons (pe_glob (v := .ref T.E_InvalidRow) rfl T.g_InvalidRow rfl) pa_nil))) (pa_cons (pe_callB call_isV (by rfl) T.n_isinstance (by decide +kernel) (pa_cons (pv 0) (pa_cons (pe_glob (v := .ref T.E_InvalidMenu) rfl T.g_InvalidMenu rfl) pa_nil))) pa_nil))))))
      (pss_cons (ps_set (i := 1) sc_l_flags.nd rfl (Or.inl rfl) (pe_op op_cat (pv 1) (pe_lst (pa_cons (pe_callB call_isV (by rfl) T.n_isinstance (by decide +kernel) (pa_cons (pv 0) (pa_cons (pe_glob (v := .ref T.E_InvalidThings) rfl T.g_InvalidThings rfl) pa_nil))) (pa_cons (pe_callB call_isV (by rfl) T.n_isinstance (by decide +kernel) (pa_cons (pv 0) (pa_cons (pe_glob (v := .ref T.E_InvalidTaken) rfl T.g_InvalidTaken rfl) pa_nil))) (pa_cons (pe_callB call_isV (by rfl) T.n_isinstance (by decide +kernel) (pa_cons (pv 0) (pa_cons (pe_glob (v := .ref T.E_InvalidRankings) rfl T.g_InvalidRankings rfl) pa_nil))) pa_nil))))))
      (pss_cons (ps_set (i := 1) sc_l_flags.nd rfl (Or.inl rfl) (pe_op op_cat (pv 1) (pe_lst (pa_cons (pe_callB call_isV (by rfl) T.n_isinstance (by decide +kernel) (pa_cons (pv 0) (pa_cons (pe_glob (v := .ref T.E_InvalidLooks) rfl T.g_InvalidLooks rfl) pa_nil))) (pa_cons (pe_callB call_isV (by rfl) T.n_isinstance (by decide +kernel) (pa_cons (pv 0) (pa_cons (pe_glob (v := .ref T.E_InvalidTable) rfl T.g_InvalidTable rfl) pa_nil))) (pa_cons (pe_callB call_isV (by rfl) T.n_isinstance (by decide +kernel) (pa_cons (pv 0) (pa_cons (pe_glob (v := .ref T.E_Clash) rfl T.g_Clash rfl) pa_nil))) pa_nil))))))
      (pss_cons (ps_set (i := 1) sc_l_flags.nd rfl (Or.inl rfl) (pe_op op_cat (pv 1) (pe_lst (pa_cons (pe_callB call_isV (by rfl) T.n_isinstance (by decide +kernel) (pa_cons (pv 0) (pa_cons (pe_glob (v := .ref T.E_Broken) rfl T.g_Broken rfl) pa_nil))) (pa_cons (pe_callB call_isV (by rfl) T.n_isinstance (by decide +kernel) (pa_cons (pv 0) (pa_cons (pe_glob (v := .ref T.E_TooMany) rfl T.g_TooMany rfl) pa_nil))) (pa_cons (pe_callB call_isV (by rfl) T.n_isinstance (by decide +kernel) (pa_cons (pv 0) (pa_cons (pe_glob (v := .ref T.E_NoHouse) rfl T.g_NoHouse rfl) pa_nil))) (pa_cons (pe_callB call_isV (by rfl) T.n_isinstance (by decide +kernel) (pa_cons (pv 0) (pa_cons (pe_glob (v := .ref T.E_NoTable) rfl T.g_NoTable rfl) pa_nil))) pa_nil)))))))
      (pss_one (ps_ret (pe_op op_cat (pv 1) (pe_lst (pa_cons (pe_callB call_isV (by rfl) T.n_isinstance (by decide +kernel) (pa_cons (pv 0) (pa_cons (pe_glob (v := .ref T.E_NothingToUndo) rfl T.g_NothingToUndo rfl) pa_nil))) pa_nil)))))))))))), ?_⟩
    refine ⟨_, rfl, a, C, _, _, b 0, rfl, e0, ek, (fun u r => r), rb.at 0 (by decide) rfl, _, rfl, a, C, _, _, b 1, rfl, e0, ek, (fun u r => r), rb.at 1 (by decide) rfl, _, rfl, a, C, _, _, b 2, rfl, e0, ek, (fun u r => r), rb.at 2 (by decide) rfl, (by show 3 ≤ sizeLine; decide), fun q0 nq0 => ?_⟩
    have t0 : Same H0 (upd H0 q0 (.lst [V.bl (b 0), V.bl (b 1), V.bl (b 2)])) := Same.new nq0
    have r0 : (upd H0 q0 (.lst [V.bl (b 0), V.bl (b 1), V.bl (b 2)])) q0 = some (.lst [V.bl (b 0), V.bl (b 1), V.bl (b 2)]) := upd_same
    generalize upd H0 q0 (.lst [V.bl (b 0), V.bl (b 1), V.bl (b 2)]) = G0 at t0 r0 ⊢
    have e1 := e0.same t0
    refine ⟨_, rfl, _, rfl, a, C, _, _, b 3, rfl, e1, ek, (fun u r => r), rb.at 3 (by decide) rfl, _, rfl, a, C, _, _, b 4, rfl, e1, ek, (fun u r => r), rb.at 4 (by decide) rfl, _, rfl, a, C, _, _, b 5, rfl, e1, ek, (fun u r => r), rb.at 5 (by decide) rfl, (by show 3 ≤ sizeLine; decide), fun q1 nq1 => ⟨q0, q1, [V.bl (b 0), V.bl (b 1), V.bl (b 2)], [V.bl (b 3), V.bl (b 4), V.bl (b 5)], rfl, rfl, (by rw [upd_ne (ne_of_none r0 nq1)]; exact r0), upd_same, (by show 6 ≤ sizeLine; decide), fun c1 nc1 => ?_⟩⟩
    obtain ⟨t1, r1⟩ := two_new (ys := [V.bl (b 0), V.bl (b 1), V.bl (b 2)] ++ [V.bl (b 3), V.bl (b 4), V.bl (b 5)]) (Same.refl G0) nq1 nc1
    generalize upd (upd G0 q1 (.lst [V.bl (b 3), V.bl (b 4), V.bl (b 5)])) c1 (.lst ([V.bl (b 0), V.bl (b 1), V.bl (b 2)] ++ [V.bl (b 3), V.bl (b 4), V.bl (b 5)])) = G1 at t1 r1 ⊢
    have e2 := e1.same t1
    refine ⟨_, rfl, _, rfl, a, C, _, _, b 6, rfl, e2, ek, (fun u r => r), rb.at 6 (by decide) rfl, _, rfl, a, C, _, _, b 7, rfl, e2, ek, (fun u r => r), rb.at 7 (by decide) rfl, _, rfl, a, C, _, _, b 8, rfl, e2, ek, (fun u r => r), rb.at 8 (by decide) rfl, (by show 3 ≤ sizeLine; decide), fun q2 nq2 => ⟨c1, q2, [V.bl (b 0), V.bl (b 1), V.bl (b 2), V.bl (b 3), V.bl (b 4), V.bl (b 5)], [V.bl (b 6), V.bl (b 7), V.bl (b 8)], rfl, rfl, (by rw [upd_ne (ne_of_none r1 nq2)]; exact r1), upd_same, (by show 9 ≤ sizeLine; decide), fun c2 nc2 => ?_⟩⟩
    obtain ⟨t2, r2⟩ := two_new (ys := [V.bl (b 0), V.bl (b 1), V.bl (b 2), V.bl (b 3), V.bl (b 4), V.bl (b 5)] ++ [V.bl (b 6), V.bl (b 7), V.bl (b 8)]) (Same.refl G1) nq2 nc2
    generalize upd (upd G1 q2 (.lst [V.bl (b 6), V.bl (b 7), V.bl (b 8)])) c2 (.lst ([V.bl (b 0), V.bl (b 1), V.bl (b 2), V.bl (b 3), V.bl (b 4), V.bl (b 5)] ++ [V.bl (b 6), V.bl (b 7), V.bl (b 8)])) = G2 at t2 r2 ⊢
    have e3 := e2.same t2
    refine ⟨_, rfl, _, rfl, a, C, _, _, b 9, rfl, e3, ek, (fun u r => r), rb.at 9 (by decide) rfl, _, rfl, a, C, _, _, b 10, rfl, e3, ek, (fun u r => r), rb.at 10 (by decide) rfl, _, rfl, a, C, _, _, b 11, rfl, e3, ek, (fun u r => r), rb.at 11 (by decide) rfl, (by show 3 ≤ sizeLine; decide), fun q3 nq3 => ⟨c2, q3, [V.bl (b 0), V.bl (b 1), V.bl (b 2), V.bl (b 3), V.bl (b 4), V.bl (b 5), V.bl (b 6), V.bl (b 7), V.bl (b 8)], [V.bl (b 9), V.bl (b 10), V.bl (b 11)], rfl, rfl, (by rw [upd_ne (ne_of_none r2 nq3)]; exact r2), upd_same, (by show 12 ≤ sizeLine; decide), fun c3 nc3 => ?_⟩⟩
    obtain ⟨t3, r3⟩ := two_new (ys := [V.bl (b 0), V.bl (b 1), V.bl (b 2), V.bl (b 3), V.bl (b 4), V.bl (b 5), V.bl (b 6), V.bl (b 7), V.bl (b 8)] ++ [V.bl (b 9), V.bl (b 10), V.bl (b 11)]) (Same.refl G2) nq3 nc3
    generalize upd (upd G2 q3 (.lst [V.bl (b 9), V.bl (b 10), V.bl (b 11)])) c3 (.lst ([V.bl (b 0), V.bl (b 1), V.bl (b 2), V.bl (b 3), V.bl (b 4), V.bl (b 5), V.bl (b 6), V.bl (b 7), V.bl (b 8)] ++ [V.bl (b 9), V.bl (b 10), V.bl (b 11)])) = G3 at t3 r3 ⊢
    have e4 := e3.same t3
    refine ⟨_, rfl, _, rfl, a, C, _, _, b 12, rfl, e4, ek, (fun u r => r), rb.at 12 (by decide) rfl, _, rfl, a, C, _, _, b 13, rfl, e4, ek, (fun u r => r), rb.at 13 (by decide) rfl, _, rfl, a, C, _, _, b 14, rfl, e4, ek, (fun u r => r), rb.at 14 (by decide) rfl, (by show 3 ≤ sizeLine; decide), fun q4 nq4 => ⟨c3, q4, [V.bl (b 0), V.bl (b 1), V.bl (b 2), V.bl (b 3), V.bl (b 4), V.bl (b 5), V.bl (b 6), V.bl (b 7), V.bl (b 8), V.bl (b 9), V.bl (b 10), V.bl (b 11)], [V.bl (b 12), V.bl (b 13), V.bl (b 14)], rfl, rfl, (by rw [upd_ne (ne_of_none r3 nq4)]; exact r3), upd_same, (by show 15 ≤ sizeLine; decide), fun c4 nc4 => ?_⟩⟩
    obtain ⟨t4, r4⟩ := two_new (ys := [V.bl (b 0), V.bl (b 1), V.bl (b 2), V.bl (b 3), V.bl (b 4), V.bl (b 5), V.bl (b 6), V.bl (b 7), V.bl (b 8), V.bl (b 9), V.bl (b 10), V.bl (b 11)] ++ [V.bl (b 12), V.bl (b 13), V.bl (b 14)]) (Same.refl G3) nq4 nc4
    generalize upd (upd G3 q4 (.lst [V.bl (b 12), V.bl (b 13), V.bl (b 14)])) c4 (.lst ([V.bl (b 0), V.bl (b 1), V.bl (b 2), V.bl (b 3), V.bl (b 4), V.bl (b 5), V.bl (b 6), V.bl (b 7), V.bl (b 8), V.bl (b 9), V.bl (b 10), V.bl (b 11)] ++ [V.bl (b 12), V.bl (b 13), V.bl (b 14)])) = G4 at t4 r4 ⊢
    have e5 := e4.same t4
    refine ⟨_, rfl, _, rfl, a, C, _, _, b 15, rfl, e5, ek, (fun u r => r), rb.at 15 (by decide) rfl, _, rfl, a, C, _, _, b 16, rfl, e5, ek, (fun u r => r), rb.at 16 (by decide) rfl, _, rfl, a, C, _, _, b 17, rfl, e5, ek, (fun u r => r), rb.at 17 (by decide) rfl, (by show 3 ≤ sizeLine; decide), fun q5 nq5 => ⟨c4, q5, [V.bl (b 0), V.bl (b 1), V.bl (b 2), V.bl (b 3), V.bl (b 4), V.bl (b 5), V.bl (b 6), V.bl (b 7), V.bl (b 8), V.bl (b 9), V.bl (b 10), V.bl (b 11), V.bl (b 12), V.bl (b 13), V.bl (b 14)], [V.bl (b 15), V.bl (b 16), V.bl (b 17)], rfl, rfl, (by rw [upd_ne (ne_of_none r4 nq5)]; exact r4), upd_same, (by show 18 ≤ sizeLine; decide), fun c5 nc5 => ?_⟩⟩
    obtain ⟨t5, r5⟩ := two_new (ys := [V.bl (b 0), V.bl (b 1), V.bl (b 2), V.bl (b 3), V.bl (b 4), V.bl (b 5), V.bl (b 6), V.bl (b 7), V.bl (b 8), V.bl (b 9), V.bl (b 10), V.bl (b 11), V.bl (b 12), V.bl (b 13), V.bl (b 14)] ++ [V.bl (b 15), V.bl (b 16), V.bl (b 17)]) (Same.refl G4) nq5 nc5
    generalize upd (upd G4 q5 (.lst [V.bl (b 15), V.bl (b 16), V.bl (b 17)])) c5 (.lst ([V.bl (b 0), V.bl (b 1), V.bl (b 2), V.bl (b 3), V.bl (b 4), V.bl (b 5), V.bl (b 6), V.bl (b 7), V.bl (b 8), V.bl (b 9), V.bl (b 10), V.bl (b 11), V.bl (b 12), V.bl (b 13), V.bl (b 14)] ++ [V.bl (b 15), V.bl (b 16), V.bl (b 17)])) = G5 at t5 r5 ⊢
    have e6 := e5.same t5
    refine ⟨_, rfl, _, rfl, a, C, _, _, b 18, rfl, e6, ek, (fun u r => r), rb.at 18 (by decide) rfl, _, rfl, a, C, _, _, b 19, rfl, e6, ek, (fun u r => r), rb.at 19 (by decide) rfl, _, rfl, a, C, _, _, b 20, rfl, e6, ek, (fun u r => r), rb.at 20 (by decide) rfl, _, rfl, a, C, _, _, b 21, rfl, e6, ek, (fun u r => r), rb.at 21 (by decide) rfl, (by show 4 ≤ sizeLine; decide), fun q6 nq6 => ⟨c5, q6, [V.bl (b 0), V.bl (b 1), V.bl (b 2), V.bl (b 3), V.bl (b 4), V.bl (b 5), V.bl (b 6), V.bl (b 7), V.bl (b 8), V.bl (b 9), V.bl (b 10), V.bl (b 11), V.bl (b 12), V.bl (b 13), V.bl (b 14), V.bl (b 15), V.bl (b 16), V.bl (b 17)], [V.bl (b 18), V.bl (b 19), V.bl (b 20), V.bl (b 21)], rfl, rfl, (by rw [upd_ne (ne_of_none r5 nq6)]; exact r5), upd_same, (by show 22 ≤ sizeLine; decide), fun c6 nc6 => ?_⟩⟩
    obtain ⟨t6, r6⟩ := two_new (ys := [V.bl (b 0), V.bl (b 1), V.bl (b 2), V.bl (b 3), V.bl (b 4), V.bl (b 5), V.bl (b 6), V.bl (b 7), V.bl (b 8), V.bl (b 9), V.bl (b 10), V.bl (b 11), V.bl (b 12), V.bl (b 13), V.bl (b 14), V.bl (b 15), V.bl (b 16), V.bl (b 17)] ++ [V.bl (b 18), V.bl (b 19), V.bl (b 20), V.bl (b 21)]) (Same.refl G5) nq6 nc6
    generalize upd (upd G5 q6 (.lst [V.bl (b 18), V.bl (b 19), V.bl (b 20), V.bl (b 21)])) c6 (.lst ([V.bl (b 0), V.bl (b 1), V.bl (b 2), V.bl (b 3), V.bl (b 4), V.bl (b 5), V.bl (b 6), V.bl (b 7), V.bl (b 8), V.bl (b 9), V.bl (b 10), V.bl (b 11), V.bl (b 12), V.bl (b 13), V.bl (b 14), V.bl (b 15), V.bl (b 16), V.bl (b 17)] ++ [V.bl (b 18), V.bl (b 19), V.bl (b 20), V.bl (b 21)])) = G6 at t6 r6 ⊢
    have e7 := e6.same t6
    refine ⟨_, rfl, _, rfl, a, C, _, _, b 22, rfl, e7, ek, (fun u r => r), rb.at 22 (by decide) rfl, (by show 1 ≤ sizeLine; decide), fun q7 nq7 => ⟨c6, q7, [V.bl (b 0), V.bl (b 1), V.bl (b 2), V.bl (b 3), V.bl (b 4), V.bl (b 5), V.bl (b 6), V.bl (b 7), V.bl (b 8), V.bl (b 9), V.bl (b 10), V.bl (b 11), V.bl (b 12), V.bl (b 13), V.bl (b 14), V.bl (b 15), V.bl (b 16), V.bl (b 17), V.bl (b 18), V.bl (b 19), V.bl (b 20), V.bl (b 21)], [V.bl (b 22)], rfl, rfl, (by rw [upd_ne (ne_of_none r6 nq7)]; exact r6), upd_same, (by show 23 ≤ sizeLine; decide), fun c7 nc7 => ?_⟩⟩
    obtain ⟨t7, r7⟩ := two_new (ys := [V.bl (b 0), V.bl (b 1), V.bl (b 2), V.bl (b 3), V.bl (b 4), V.bl (b 5), V.bl (b 6), V.bl (b 7), V.bl (b 8), V.bl (b 9), V.bl (b 10), V.bl (b 11), V.bl (b 12), V.bl (b 13), V.bl (b 14), V.bl (b 15), V.bl (b 16), V.bl (b 17), V.bl (b 18), V.bl (b 19), V.bl (b 20), V.bl (b 21)] ++ [V.bl (b 22)]) (Same.refl G6) nq7 nc7
    generalize upd (upd G6 q7 (.lst [V.bl (b 22)])) c7 (.lst ([V.bl (b 0), V.bl (b 1), V.bl (b 2), V.bl (b 3), V.bl (b 4), V.bl (b 5), V.bl (b 6), V.bl (b 7), V.bl (b 8), V.bl (b 9), V.bl (b 10), V.bl (b 11), V.bl (b 12), V.bl (b 13), V.bl (b 14), V.bl (b 15), V.bl (b 16), V.bl (b 17), V.bl (b 18), V.bl (b 19), V.bl (b 20), V.bl (b 21)] ++ [V.bl (b 22)])) = G7 at t7 r7 ⊢
    have e8 := e7.same t7
    exact k c7 G7 (((((((t0.trans t1).trans t2).trans t3).trans t4).trans t5).trans t6).trans t7) r7
theorem ok_l_bases (T : Tx K mg) : FnOk P w K mg base CX0 1 T.a_l_bases T.fd_l_bases ["_law_e"] (spBases T) := by
  refine T.F_l_bases.ok sc_l_bases (fun vs H Q E h => ?_) (fun cdv A outer s H0 vs Q E hr h => ?_)
  · obtain ⟨a, C, b, rfl, _⟩ := h
    rfl
  · obtain ⟨a, C, b, rfl, e0, ek, rb, k⟩ := h
    refine ⟨_, (pss_cons (ps_set (i := 1) sc_l_bases.nd rfl (Or.inl rfl) (pe_lst (pa_cons (pe_callB call_isV (by rfl) T.n_isinstance (by decide +kernel) (pa_cons (pv 0) (pa_cons (pe_glob (v := .ref T.E_WrongValue) rfl T.g_WrongValue rfl) pa_nil))) (pa_cons (pe_callB call_isV (by rfl) T.n_isinstance (by decide +kernel) (pa_cons (pv 0) (pa_cons (pe_glob (v := .ref T.E_WrongName) rfl T.g_WrongName rfl) pa_nil))) (pa_cons (pe_callB call_isV (by rfl) T.n_isinstance (by decide +kernel) (pa_cons (pv 0) (pa_cons (pe_glob (v := .ref T.E_NoAnswer) rfl T.g_NoAnswer rfl) pa_nil))) pa_nil)))))
      (pss_cons (ps_set (i := 2) sc_l_bases.nd rfl (Or.inl rfl) (pe_lst (pa_cons (pe_callB call_isV (by rfl) T.n_isinstance (by decide +kernel) (pa_cons (pv 0) (pa_cons (pe_bltn (v := .ty "ValueError") (by rfl) T.n_ValueError (by decide +kernel) rfl) pa_nil))) (pa_cons (pe_callB call_isV (by rfl) T.n_isinstance (by decide +kernel) (pa_cons (pv 0) (pa_cons (pe_bltn (v := .ty "LookupError") (by rfl) T.n_LookupError (by decide +kernel) rfl) pa_nil))) (pa_cons (pe_callB call_isV (by rfl) T.n_isinstance (by decide +kernel) (pa_cons (pv 0) (pa_cons (pe_bltn (v := .ty "ArithmeticError") (by rfl) T.n_ArithmeticError (by decide +kernel) rfl) pa_nil))) pa_nil)))))
      (pss_one (ps_ret (pe_lst (pa_cons (pv 1) (pa_cons (pv 2) pa_nil))))))), ?_⟩
    refine ⟨_, rfl, a, C, _, _, b 23, rfl, e0, ek, (fun u r => r), rb.at 23 (by decide) rfl, _, rfl, a, C, _, _, b 24, rfl, e0, ek, (fun u r => r), rb.at 24 (by decide) rfl, _, rfl, a, C, _, _, b 25, rfl, e0, ek, (fun u r => r), rb.at 25 (by decide) rfl, (by show 3 ≤ sizeLine; decide), fun p1 n1 => ?_⟩
    have e1 := e0.same (Same.new n1 (o := .lst ((basesOf b).map V.bl)))
    refine ⟨_, rfl, a, C, _, _, b 26, rfl, e1, ek, (fun u r => r), rb.at 26 (by decide) rfl, _, rfl, a, C, _, _, b 27, rfl, e1, ek, (fun u r => r), rb.at 27 (by decide) rfl, _, rfl, a, C, _, _, b 28, rfl, e1, ek, (fun u r => r), rb.at 28 (by decide) rfl, (by show 3 ≤ sizeLine; decide), fun p2 n2 => ?_⟩
    refine ⟨_, rfl, _, rfl, (by show 2 ≤ sizeLine; decide), fun p np => ?_⟩
    have h1 : (upd (upd H0 p1 (.lst ((basesOf b).map V.bl))) p2 (.lst ((basesOf2 b).map V.bl))) p1 = some (.lst ((basesOf b).map V.bl)) := by
      rw [upd_ne (ne_of_none upd_same n2)]
      exact upd_same
    have h2 : (upd (upd H0 p1 (.lst ((basesOf b).map V.bl))) p2 (.lst ((basesOf2 b).map V.bl))) p2 = some (.lst ((basesOf2 b).map V.bl)) := upd_same
    refine k p p1 p2 _ (((Same.new n1).new' n2).new' np) upd_same ?_ ?_
    · exact (upd_ne (ne_of_none h1 np)).trans h1
    · exact (upd_ne (ne_of_none h2 np)).trans h2
def things13 : List PyData := [.none, .bool true, .int 0, .int (-(10 ^ 30)), .str "", .str "a", .str "a+ b-", .tuple [], .tuple [.str "a", .tuple [.str "b", .int 1]], .list [], .list [.list [.str "a"]], .dict [], .dict [(.str "a", .tuple [])]]
theorem DXs.get {H : Hp} : ∀ {xs : List V} {ds : List PyData} {j : Nat} {x : V}, DXs K H xs ds → xs[j]? = some x → ∃ d, ds[j]? = some d ∧ DX K H x d
  | _, _, _, _, .nil, e => by simp at e
  | _, _, 0, _, .cons h t, e => by
    cases e
    exact ⟨_, rfl, h⟩
  | _, _, j + 1, _, .cons h t, e => DXs.get (j := j) t e
def spThing (K : PySem.W.Frag) : Sp := fun vs H Q _ => ∃ p, vs = [.ref p] ∧ Pu H p ∧ ∀ v d H', d ∈ things13 → (∀ H2, SameB p H' H2 → DX K H2 v d) → SameB p H H' → Pu H' p → Q v H'
theorem ok_l_thing (T : Tx K mg) : FnOk P w K mg base CX0 2 T.a_l_thing T.fd_l_thing ["_law_purse_here"] (spThing K) := by
  refine T.F_l_thing.ok sc_l_thing (fun vs H Q E h => ?_) (fun cdv A outer s H0 vs Q E hr h => ?_)
  · obtain ⟨p, rfl, _⟩ := h
    rfl
  · obtain ⟨p, rfl, pu, k⟩ := h
    refine ⟨_, (pss_cons (ps_set (i := 1) sc_l_thing.nd rfl (Or.inl rfl) (pe_lst (pa_cons pe_non (pa_cons pe_bl (pa_cons pe_int (pa_cons (pe_un un_neg (pe_op op_pow pe_int pe_int)) (pa_cons pe_str (pa_cons pe_str (pa_cons pe_str (pa_cons (pe_tup pa_nil) (pa_cons (pe_tup (pa_cons pe_str (pa_cons (pe_tup (pa_cons pe_str (pa_cons pe_int pa_nil))) pa_nil))) (pa_cons (pe_lst pa_nil) (pa_cons (pe_lst (pa_cons (pe_lst (pa_cons pe_str pa_nil)) pa_nil)) (pa_cons pe_dnewK (pa_cons (pe_disp (pps_cons pe_str (pe_tup pa_nil) pps_nil) rfl rfl (by simp) (by decide)) pa_nil)))))))))))))))
      (pss_one (ps_ret (pe_ix ix_list (pv 1) (pe_call (ok_l_draw T) (hr.mono (by decide)) rfl T.g_l_draw T.F_l_draw.kp T.b_l_draw .nil pass0 (pa_cons (pv 0) (pa_cons pe_int pa_nil))) (fun _ _ => rfl))))), ?_⟩
    refine ⟨_, _, rfl, rfl, ⟨by decide, by decide, by decide⟩, _, rfl, (by show 0 ≤ sizeLine; decide), fun a1 n1 => ?_⟩
    have ap : ∀ {a : Addr} {H : Hp} {o : HO}, H a = none → Pu H p → a ≠ p := fun {a H o} n u z => by
      obtain ⟨x, y, hp, _⟩ := u
      rw [← z, n] at hp
      cases hp
    have u1 := pu.same (Same.new n1 (o := .tup []))
    have f1 : (upd H0 a1 (.tup [])) a1 = some (.tup []) := upd_same
    have z1 : a1 ≠ p := ap (o := .tup []) n1 pu
    have s1 : Same H0 (upd H0 a1 (.tup [])) := Same.new n1
    generalize upd H0 a1 (.tup []) = H1 at u1 f1 s1 ⊢
    refine ⟨(by show 2 ≤ sizeLine; decide), fun a2 n2 => ?_⟩
    have u2 := u1.same (Same.new n2 (o := .tup [.str "b", .int 1]))
    have f2 : (upd H1 a2 (.tup [.str "b", .int 1])) a2 = some (.tup [.str "b", .int 1]) := upd_same
    have z2 : a2 ≠ p := ap (o := .tup [.str "b", .int 1]) n2 u1
    have s2 : Same H1 (upd H1 a2 (.tup [.str "b", .int 1])) := Same.new n2
    generalize upd H1 a2 (.tup [.str "b", .int 1]) = H2 at u2 f2 s2 ⊢
    refine ⟨(by show 2 ≤ sizeLine; decide), fun a3 n3 => ?_⟩
    have u3 := u2.same (Same.new n3 (o := .tup [.str "a", .ref a2]))
    have f3 : (upd H2 a3 (.tup [.str "a", .ref a2])) a3 = some (.tup [.str "a", .ref a2]) := upd_same
    have z3 : a3 ≠ p := ap (o := .tup [.str "a", .ref a2]) n3 u2
    have s3 : Same H2 (upd H2 a3 (.tup [.str "a", .ref a2])) := Same.new n3
    generalize upd H2 a3 (.tup [.str "a", .ref a2]) = H3 at u3 f3 s3 ⊢
    refine ⟨(by show 0 ≤ sizeLine; decide), fun a4 n4 => ?_⟩
    have u4 := u3.same (Same.new n4 (o := .lst []))
    have f4 : (upd H3 a4 (.lst [])) a4 = some (.lst []) := upd_same
    have z4 : a4 ≠ p := ap (o := .lst []) n4 u3
    have s4 : Same H3 (upd H3 a4 (.lst [])) := Same.new n4
    generalize upd H3 a4 (.lst []) = H4 at u4 f4 s4 ⊢
    refine ⟨(by show 1 ≤ sizeLine; decide), fun a5 n5 => ?_⟩
    have u5 := u4.same (Same.new n5 (o := .lst [.str "a"]))
    have f5 : (upd H4 a5 (.lst [.str "a"])) a5 = some (.lst [.str "a"]) := upd_same
    have z5 : a5 ≠ p := ap (o := .lst [.str "a"]) n5 u4
    have s5 : Same H4 (upd H4 a5 (.lst [.str "a"])) := Same.new n5
    generalize upd H4 a5 (.lst [.str "a"]) = H5 at u5 f5 s5 ⊢
    refine ⟨(by show 1 ≤ sizeLine; decide), fun a6 n6 => ?_⟩
    have u6 := u5.same (Same.new n6 (o := .lst [.ref a5]))
    have f6 : (upd H5 a6 (.lst [.ref a5])) a6 = some (.lst [.ref a5]) := upd_same
    have z6 : a6 ≠ p := ap (o := .lst [.ref a5]) n6 u5
    have s6 : Same H5 (upd H5 a6 (.lst [.ref a5])) := Same.new n6
    generalize upd H5 a6 (.lst [.ref a5]) = H6 at u6 f6 s6 ⊢
    refine fun a7 n7 => ?_
    have u7 := u6.same (Same.new n7 (o := .dK []))
    have f7 : (upd H6 a7 (.dK [])) a7 = some (.dK []) := upd_same
    have z7 : a7 ≠ p := ap (o := .dK []) n7 u6
    have s7 : Same H6 (upd H6 a7 (.dK [])) := Same.new n7
    generalize upd H6 a7 (.dK []) = H7 at u7 f7 s7 ⊢
    refine fun a8 n8 => ?_
    have u8 := u7.same (Same.new n8 (o := .dK []))
    have f8 : (upd H7 a8 (.dK [])) a8 = some (.dK []) := upd_same
    have z8 : a8 ≠ p := ap (o := .dK []) n8 u7
    have s8 : Same H7 (upd H7 a8 (.dK [])) := Same.new n8
    generalize upd H7 a8 (.dK []) = H8 at u8 f8 s8 ⊢
    refine ⟨(by show 0 ≤ sizeLine; decide), fun a9 n9 => ?_⟩
    have u9 := u8.same (Same.new n9 (o := .tup []))
    have f9 : (upd H8 a9 (.tup [])) a9 = some (.tup []) := upd_same
    have z9 : a9 ≠ p := ap (o := .tup []) n9 u8
    have s9 : Same H8 (upd H8 a9 (.tup [])) := Same.new n9
    generalize upd H8 a9 (.tup []) = H9 at u9 f9 s9 ⊢
    refine ⟨s9 _ _ f8, [(.inr "a", .ref a9)], rfl, (by show 1 ≤ 15; decide), ?_⟩
    have g1 := (s9 _ _ (s8 _ _ (s7 _ _ (s6 _ _ (s5 _ _ (s4 _ _ (s3 _ _ (s2 _ _ f1))))))))
    have w1 : a1 ≠ a8 := ne_of_none (s7 _ _ (s6 _ _ (s5 _ _ (s4 _ _ (s3 _ _ (s2 _ _ f1)))))) n8
    have g2 := (s9 _ _ (s8 _ _ (s7 _ _ (s6 _ _ (s5 _ _ (s4 _ _ (s3 _ _ f2)))))))
    have w2 : a2 ≠ a8 := ne_of_none (s7 _ _ (s6 _ _ (s5 _ _ (s4 _ _ (s3 _ _ f2))))) n8
    have g3 := (s9 _ _ (s8 _ _ (s7 _ _ (s6 _ _ (s5 _ _ (s4 _ _ f3))))))
    have w3 : a3 ≠ a8 := ne_of_none (s7 _ _ (s6 _ _ (s5 _ _ (s4 _ _ f3)))) n8
    have g4 := (s9 _ _ (s8 _ _ (s7 _ _ (s6 _ _ (s5 _ _ f4)))))
    have w4 : a4 ≠ a8 := ne_of_none (s7 _ _ (s6 _ _ (s5 _ _ f4))) n8
    have g5 := (s9 _ _ (s8 _ _ (s7 _ _ (s6 _ _ f5))))
    have w5 : a5 ≠ a8 := ne_of_none (s7 _ _ (s6 _ _ f5)) n8
    have g6 := (s9 _ _ (s8 _ _ (s7 _ _ f6)))
    have w6 : a6 ≠ a8 := ne_of_none (s7 _ _ f6) n8
    have g7 := (s9 _ _ (s8 _ _ f7))
    have w7 : a7 ≠ a8 := ne_of_none f7 n8
    have w9 : a9 ≠ a8 := fun z => by
      rw [z] at n9
      exact absurd (f8.symm.trans n9) (by simp)
    have s07 : Same H0 H7 := (((((((s1).trans s2).trans s3).trans s4).trans s5).trans s6).trans s7)
    have s09 : Same H0 H9 := (s07.trans s8).trans s9
    have sb10 : SameB p H0 (upd H9 a8 (.dK (mergeK [] [(.inr "a", .ref a9)]))) := fun b o _ e => by
      rw [upd_ne (ne_of_none (s07 _ _ e) n8)]
      exact s09 _ _ e
    have u10 : Pu (upd H9 a8 (.dK (mergeK [] [(.inr "a", .ref a9)]))) p := u9.put (s9 _ _ f8) (by intro x y q; cases q)
    have h1 := (upd_ne (o := .dK (mergeK [] [(.inr "a", .ref a9)])) w1).trans g1
    have h2 := (upd_ne (o := .dK (mergeK [] [(.inr "a", .ref a9)])) w2).trans g2
    have h3 := (upd_ne (o := .dK (mergeK [] [(.inr "a", .ref a9)])) w3).trans g3
    have h4 := (upd_ne (o := .dK (mergeK [] [(.inr "a", .ref a9)])) w4).trans g4
    have h5 := (upd_ne (o := .dK (mergeK [] [(.inr "a", .ref a9)])) w5).trans g5
    have h6 := (upd_ne (o := .dK (mergeK [] [(.inr "a", .ref a9)])) w6).trans g6
    have h7 := (upd_ne (o := .dK (mergeK [] [(.inr "a", .ref a9)])) w7).trans g7
    have h9 := (upd_ne (o := .dK (mergeK [] [(.inr "a", .ref a9)])) w9).trans f9
    have h8 : (upd H9 a8 (.dK (mergeK [] [(.inr "a", .ref a9)]))) a8 = some (.dK [(.inr "a", .ref a9)]) := upd_same
    generalize upd H9 a8 (.dK (mergeK [] [(.inr "a", .ref a9)])) = H10 at sb10 u10 h1 h2 h3 h4 h5 h6 h7 h8 h9 ⊢
    refine ⟨(by show 13 ≤ sizeLine; decide), fun L nL => ?_⟩
    have s11 : Same H10 (upd H10 L (.lst [.non, .bl true, .int 0, .int (-(10 ^ 30)), .str "", .str "a", .str "a+ b-", .ref a1, .ref a3, .ref a4, .ref a6, .ref a7, .ref a8])) := Same.new nL
    refine ⟨_, rfl, _, rfl, p, 13, rfl, u10.same s11, by decide, by decide, fun d H12 d0 d1 sb u12 => ?_⟩
    have zL : L ≠ p := ap (o := .tup []) nL u10
    have hL := sb _ _ zL upd_same
    have i1 := sb _ _ z1 (s11 _ _ h1)
    have i2 := sb _ _ z2 (s11 _ _ h2)
    have i3 := sb _ _ z3 (s11 _ _ h3)
    have i4 := sb _ _ z4 (s11 _ _ h4)
    have i5 := sb _ _ z5 (s11 _ _ h5)
    have i6 := sb _ _ z6 (s11 _ _ h6)
    have i7 := sb _ _ z7 (s11 _ _ h7)
    have i8 := sb _ _ z8 (s11 _ _ h8)
    have i9 := sb _ _ z9 (s11 _ _ h9)
    obtain ⟨j, rfl⟩ : ∃ j : Nat, d = j := ⟨d.toNat, by omega⟩
    have hj : j < 13 := by omega
    obtain ⟨x, hx⟩ : ∃ x, ([.non, .bl true, .int 0, .int (-(10 ^ 30)), .str "", .str "a", .str "a+ b-", .ref a1, .ref a3, .ref a4, .ref a6, .ref a7, .ref a8] : List V)[j]? = some x := ⟨_, List.getElem?_eq_getElem (by exact hj)⟩
    have all : ∀ H2, SameB p H12 H2 → DXs K H2 [.non, .bl true, .int 0, .int (-(10 ^ 30)), .str "", .str "a", .str "a+ b-", .ref a1, .ref a3, .ref a4, .ref a6, .ref a7, .ref a8] things13 := fun H2 sb2 => by
      have v1 := sb2 _ _ z1 i1
      have v2 := sb2 _ _ z2 i2
      have v3 := sb2 _ _ z3 i3
      have v4 := sb2 _ _ z4 i4
      have v5 := sb2 _ _ z5 i5
      have v6 := sb2 _ _ z6 i6
      have v7 := sb2 _ _ z7 i7
      have v8 := sb2 _ _ z8 i8
      have v9 := sb2 _ _ z9 i9
      exact .cons .non (.cons (.bl _) (.cons (.int _) (.cons (.int _) (.cons (.str _) (.cons (.str _) (.cons (.str _) (.cons (.tup (tup_of v1) .nil) (.cons (.tup (tup_of v3) (.cons (.str _) (.cons (.tup (tup_of v2) (.cons (.str _) (.cons (.int _) .nil))) .nil))) (.cons (.lst v4 .nil) (.cons (.lst v6 (.cons (.lst v5 (.cons (.str _) .nil)) .nil)) (.cons (.dk0 v7) (.cons (.dk1 v8 (tup_of v9)) .nil))))))))))))
    obtain ⟨d, hd, _⟩ := DXs.get (all H12 (SameB.refl _ _)) hx
    refine ⟨L, _, _, x, rfl, rfl, lst_of hL, atI_nat hx, ?_⟩
    refine k x d H12 (List.mem_of_getElem? hd) (fun H2 sb2 => ?_) ((sb10.trans (SameB.of s11)).trans sb) u12
    obtain ⟨d', hd', h⟩ := DXs.get (all H2 sb2) hx
    rw [hd] at hd'
    cases hd'
    exact h
end
end MH
namespace MH
open PySem PySem.Spec PyProof.Rows L2
/-- what reading the field of a pair's errors asks of their class -/
def FldOk (K : PySem.W.Frag) (f : Str) (C : Addr) : Prop := ExcK K C ∧ PySem.W.findIn K (.ref C) f = some none
def PairO (K : PySem.W.Frag) (H : Hp) (f : Str) (v y : V) : Prop := ∃ C, PairV K H y C [(f, v)] ∧ FldOk K f C
theorem PairO.same {K : PySem.W.Frag} {H H' : Hp} {f : Str} {v y : V} (e : PairO K H f v y) (s : Same H H') : PairO K H' f v y := by
  obtain ⟨C, h1, h2⟩ := e
  exact ⟨C, h1.same s, h2⟩
theorem pairs_ok {K : PySem.W.Frag} {H : Hp} {f : Str} {v : V} : ∀ {ys : List V} {cs : List Addr}, Paired (fun y C => PairV K H y C [(f, v)]) ys cs → (∀ C ∈ cs, FldOk K f C) → ∀ y ∈ ys, PairO K H f v y
  | _, _, .nil, _ => fun y hy => nomatch hy
  | _, _, .cons h t, ok => fun y hy => by
    rcases List.mem_cons.mp hy with rfl | hy
    · exact ⟨_, h, ok _ List.mem_cons_self⟩
    · exact pairs_ok t (fun C hC => ok C (List.mem_cons_of_mem _ hC)) y hy
theorem pairs_len {K : PySem.W.Frag} {H : Hp} {f : Str} {v : V} {ys : List V} {cs : List Addr} (h : Paired (fun y C => PairV K H y C [(f, v)]) ys cs) : ys.length = cs.length := Paired.length h
section
variable {K : PySem.W.Frag} {mg : Str → Option Value}
theorem okG (T : Tx K mg) : ∀ C ∈ csG T, FldOk K "given" C := (List.forall_mem_cons.mpr ⟨⟨T.ek_InvalidText, T.no_InvalidText_given⟩, (List.forall_mem_cons.mpr ⟨⟨T.ek_InvalidMarks, T.no_InvalidMarks_given⟩, (List.forall_mem_cons.mpr ⟨⟨T.ek_InvalidIndex, T.no_InvalidIndex_given⟩, (List.forall_mem_cons.mpr ⟨⟨T.ek_InvalidWord, T.no_InvalidWord_given⟩, (List.forall_mem_cons.mpr ⟨⟨T.ek_NotARanking, T.no_NotARanking_given⟩, (List.forall_mem_cons.mpr ⟨⟨T.ek_NotAHouse, T.no_NotAHouse_given⟩, (List.forall_mem_cons.mpr ⟨⟨T.ek_NotALook, T.no_NotALook_given⟩, (List.forall_mem_cons.mpr ⟨⟨T.ek_NotLooks, T.no_NotLooks_given⟩, (List.forall_mem_cons.mpr ⟨⟨T.ek_OtherThings, T.no_OtherThings_given⟩, (List.forall_mem_cons.mpr ⟨⟨T.ek_UnknownThing, T.no_UnknownThing_given⟩, (fun C hC => nomatch hC)⟩)⟩)⟩)⟩)⟩)⟩)⟩)⟩)⟩)⟩)
theorem okI (T : Tx K mg) : ∀ C ∈ csI T, FldOk K "index" C := (List.forall_mem_cons.mpr ⟨⟨T.ek_InvalidRow, T.no_InvalidRow_index⟩, (List.forall_mem_cons.mpr ⟨⟨T.ek_InvalidMenu, T.no_InvalidMenu_index⟩, (List.forall_mem_cons.mpr ⟨⟨T.ek_InvalidThings, T.no_InvalidThings_index⟩, (List.forall_mem_cons.mpr ⟨⟨T.ek_InvalidTaken, T.no_InvalidTaken_index⟩, (List.forall_mem_cons.mpr ⟨⟨T.ek_InvalidRankings, T.no_InvalidRankings_index⟩, (List.forall_mem_cons.mpr ⟨⟨T.ek_InvalidLooks, T.no_InvalidLooks_index⟩, (List.forall_mem_cons.mpr ⟨⟨T.ek_InvalidTable, T.no_InvalidTable_index⟩, (List.forall_mem_cons.mpr ⟨⟨T.ek_Clash, T.no_Clash_index⟩, (List.forall_mem_cons.mpr ⟨⟨T.ek_Broken, T.no_Broken_index⟩, (fun C hC => nomatch hC)⟩)⟩)⟩)⟩)⟩)⟩)⟩)⟩)⟩)
def cs23 (T : Tx K mg) : List Addr := [T.E_InvalidText, T.E_InvalidMarks, T.E_InvalidIndex, T.E_InvalidWord, T.E_NotARanking, T.E_NotAHouse, T.E_NotALook, T.E_NotLooks, T.E_OtherThings, T.E_UnknownThing, T.E_InvalidRow, T.E_InvalidMenu, T.E_InvalidThings, T.E_InvalidTaken, T.E_InvalidRankings, T.E_InvalidLooks, T.E_InvalidTable, T.E_Clash, T.E_Broken, T.E_TooMany, T.E_NoHouse, T.E_NoTable, T.E_NothingToUndo]
theorem cs23_eq (T : Tx K mg) : cs23 T = csG T ++ csI T ++ [T.E_TooMany, T.E_NoHouse, T.E_NoTable, T.E_NothingToUndo] := rfl
def lowN (k : Nat) : Nat := if k < 9 ∨ (9 < k ∧ k < 17) then 0 else if k = 9 then 1 else 2
def rowB (k i : Nat) : Bool := if i < 23 then decide (i = k) else decide ((i - 23) % 3 = lowN k)
def ClsOk (T : Tx K mg) (k : Nat) (C : Addr) : Prop := ExcK K C ∧ Row T C (rowB k)
theorem tab (T : Tx K mg) : ∀ k, k < 23 → ∃ C, (cs23 T)[k]? = some C ∧ ClsOk T k C
  | 0, _ => ⟨T.E_InvalidText, rfl, T.ek_InvalidText, fun i hi => by rw [show (tests T).map (PySem.W.kitOne K (.ref T.E_InvalidText)) = _ from T.kt_InvalidText]; revert i; decide +kernel⟩
  | 1, _ => ⟨T.E_InvalidMarks, rfl, T.ek_InvalidMarks, fun i hi => by rw [show (tests T).map (PySem.W.kitOne K (.ref T.E_InvalidMarks)) = _ from T.kt_InvalidMarks]; revert i; decide +kernel⟩
  | 2, _ => ⟨T.E_InvalidIndex, rfl, T.ek_InvalidIndex, fun i hi => by rw [show (tests T).map (PySem.W.kitOne K (.ref T.E_InvalidIndex)) = _ from T.kt_InvalidIndex]; revert i; decide +kernel⟩
  | 3, _ => ⟨T.E_InvalidWord, rfl, T.ek_InvalidWord, fun i hi => by rw [show (tests T).map (PySem.W.kitOne K (.ref T.E_InvalidWord)) = _ from T.kt_InvalidWord]; revert i; decide +kernel⟩
  | 4, _ => ⟨T.E_NotARanking, rfl, T.ek_NotARanking, fun i hi => by rw [show (tests T).map (PySem.W.kitOne K (.ref T.E_NotARanking)) = _ from T.kt_NotARanking]; revert i; decide +kernel⟩
  | 5, _ => ⟨T.E_NotAHouse, rfl, T.ek_NotAHouse, fun i hi => by rw [show (tests T).map (PySem.W.kitOne K (.ref T.E_NotAHouse)) = _ from T.kt_NotAHouse]; revert i; decide +kernel⟩
  | 6, _ => ⟨T.E_NotALook, rfl, T.ek_NotALook, fun i hi => by rw [show (tests T).map (PySem.W.kitOne K (.ref T.E_NotALook)) = _ from T.kt_NotALook]; revert i; decide +kernel⟩
  | 7, _ => ⟨T.E_NotLooks, rfl, T.ek_NotLooks, fun i hi => by rw [show (tests T).map (PySem.W.kitOne K (.ref T.E_NotLooks)) = _ from T.kt_NotLooks]; revert i; decide +kernel⟩
  | 8, _ => ⟨T.E_OtherThings, rfl, T.ek_OtherThings, fun i hi => by rw [show (tests T).map (PySem.W.kitOne K (.ref T.E_OtherThings)) = _ from T.kt_OtherThings]; revert i; decide +kernel⟩
  | 9, _ => ⟨T.E_UnknownThing, rfl, T.ek_UnknownThing, fun i hi => by rw [show (tests T).map (PySem.W.kitOne K (.ref T.E_UnknownThing)) = _ from T.kt_UnknownThing]; revert i; decide +kernel⟩
  | 10, _ => ⟨T.E_InvalidRow, rfl, T.ek_InvalidRow, fun i hi => by rw [show (tests T).map (PySem.W.kitOne K (.ref T.E_InvalidRow)) = _ from T.kt_InvalidRow]; revert i; decide +kernel⟩
  | 11, _ => ⟨T.E_InvalidMenu, rfl, T.ek_InvalidMenu, fun i hi => by rw [show (tests T).map (PySem.W.kitOne K (.ref T.E_InvalidMenu)) = _ from T.kt_InvalidMenu]; revert i; decide +kernel⟩
  | 12, _ => ⟨T.E_InvalidThings, rfl, T.ek_InvalidThings, fun i hi => by rw [show (tests T).map (PySem.W.kitOne K (.ref T.E_InvalidThings)) = _ from T.kt_InvalidThings]; revert i; decide +kernel⟩
  | 13, _ => ⟨T.E_InvalidTaken, rfl, T.ek_InvalidTaken, fun i hi => by rw [show (tests T).map (PySem.W.kitOne K (.ref T.E_InvalidTaken)) = _ from T.kt_InvalidTaken]; revert i; decide +kernel⟩
  | 14, _ => ⟨T.E_InvalidRankings, rfl, T.ek_InvalidRankings, fun i hi => by rw [show (tests T).map (PySem.W.kitOne K (.ref T.E_InvalidRankings)) = _ from T.kt_InvalidRankings]; revert i; decide +kernel⟩
  | 15, _ => ⟨T.E_InvalidLooks, rfl, T.ek_InvalidLooks, fun i hi => by rw [show (tests T).map (PySem.W.kitOne K (.ref T.E_InvalidLooks)) = _ from T.kt_InvalidLooks]; revert i; decide +kernel⟩
  | 16, _ => ⟨T.E_InvalidTable, rfl, T.ek_InvalidTable, fun i hi => by rw [show (tests T).map (PySem.W.kitOne K (.ref T.E_InvalidTable)) = _ from T.kt_InvalidTable]; revert i; decide +kernel⟩
  | 17, _ => ⟨T.E_Clash, rfl, T.ek_Clash, fun i hi => by rw [show (tests T).map (PySem.W.kitOne K (.ref T.E_Clash)) = _ from T.kt_Clash]; revert i; decide +kernel⟩
  | 18, _ => ⟨T.E_Broken, rfl, T.ek_Broken, fun i hi => by rw [show (tests T).map (PySem.W.kitOne K (.ref T.E_Broken)) = _ from T.kt_Broken]; revert i; decide +kernel⟩
  | 19, _ => ⟨T.E_TooMany, rfl, T.ek_TooMany, fun i hi => by rw [show (tests T).map (PySem.W.kitOne K (.ref T.E_TooMany)) = _ from T.kt_TooMany]; revert i; decide +kernel⟩
  | 20, _ => ⟨T.E_NoHouse, rfl, T.ek_NoHouse, fun i hi => by rw [show (tests T).map (PySem.W.kitOne K (.ref T.E_NoHouse)) = _ from T.kt_NoHouse]; revert i; decide +kernel⟩
  | 21, _ => ⟨T.E_NoTable, rfl, T.ek_NoTable, fun i hi => by rw [show (tests T).map (PySem.W.kitOne K (.ref T.E_NoTable)) = _ from T.kt_NoTable]; revert i; decide +kernel⟩
  | 22, _ => ⟨T.E_NothingToUndo, rfl, T.ek_NothingToUndo, fun i hi => by rw [show (tests T).map (PySem.W.kitOne K (.ref T.E_NothingToUndo)) = _ from T.kt_NothingToUndo]; revert i; decide +kernel⟩
  | k + 23, h => absurd h (by omega)
end
/-- a comprehension over pairs of errors: the field of the first or the second one -/
theorem kept_go {H0 H2 : Hp} {v : V} {i : Nat} {D : Addr} (hn : i < 1000) (s : Same H0 H2) (nD : H0 D = none) (e : H2 D = some (.lst (List.replicate i v))) :
    ∃ acc, H2 D = some (.lst acc) ∧ acc.length < sizeLine ∧ Same H0 (upd H2 D (.lst (acc ++ [v]))) ∧ (upd H2 D (.lst (acc ++ [v]))) D = some (.lst (List.replicate (i + 1) v)) := by
  refine ⟨_, e, lt_line (by rw [List.length_replicate]; omega), fun b o h => ?_, ?_⟩
  · rw [upd_ne (ne_of_none h nD)]
    exact s _ _ h
  · rw [upd_same, List.replicate_succ']
theorem paired_c {K : PySem.W.Frag} {H H' : Hp} {f : Str} {v : V} (s : Same H H') : ∀ {ys : List V} {cs : List Addr}, Paired (fun y C => PairV K H y C [(f, v)]) ys cs → Paired (fun y C => PairC K H' y C) ys cs
  | _, _, .nil => .nil
  | _, _, .cons h t => .cons ((h.same s).toC) (paired_c s t)
theorem paired_app {α β : Type} {F : α → β → Prop} : ∀ {a : List α} {b : List β} {c : List α} {d : List β}, Paired F a b → Paired F c d → Paired F (a ++ c) (b ++ d)
  | _, _, _, _, .nil, h => h
  | _, _, _, _, .cons x t, h => .cons x (paired_app t h)
theorem paired_get {α β : Type} {F : α → β → Prop} : ∀ {xs : List α} {ys : List β} {i : Nat} {x : α}, Paired F xs ys → xs[i]? = some x → ∃ y, ys[i]? = some y ∧ F x y
  | _, _, _, _, .nil, e => by simp at e
  | _, _, 0, _, .cons h t, e => by
    cases e
    exact ⟨_, rfl, h⟩
  | _, _, i + 1, _, .cons h t, e => paired_get (i := i) t e
theorem int_eq0 {n : Nat} : decide (V.int (n : Int) = V.int 0) = decide (n = 0) := decide_eq_decide.mpr ⟨fun e => by have q : (n : Int) = 0 := V.int.inj e; omega, fun e => by rw [e]; rfl⟩
theorem int_eq1 {n : Nat} : decide (V.int (n : Int) = V.int 1) = decide (n = 1) := decide_eq_decide.mpr ⟨fun e => by have q : (n : Int) = 1 := V.int.inj e; omega, fun e => by rw [e]; rfl⟩
theorem int_eq2 {n : Nat} : decide (V.int (n : Int) = V.int 2) = decide (n = 2) := decide_eq_decide.mpr ⟨fun e => by have q : (n : Int) = 2 := V.int.inj e; omega, fun e => by rw [e]; rfl⟩
theorem cnt1 : ∀ i, i < 23 → (flagsOf (rowB i)).count true = 1 := by decide +kernel
theorem flag1 : ∀ i, i < 23 → ((flagsOf (rowB i)).map V.bl)[i]? = some (V.bl true) := fun i hi => by
  have h : ∀ i, i < 23 → (flagsOf (rowB i))[i]? = some true := by decide +kernel
  rw [List.getElem?_map, h i hi]
  rfl
theorem eqv6 : ∀ a b c : Bool, PyData.eqv (.list [.list [.bool a, .bool b, .bool c], .list [.bool a, .bool b, .bool c]]) (.list [.list [.bool a, .bool b, .bool c], .list [.bool a, .bool b, .bool c]]) = true := by decide +kernel
theorem shp6 : ∀ a b c : Bool, SeqAt.shaped (.list [.list [.bool a, .bool b, .bool c], .list [.bool a, .bool b, .bool c]]) = true := by decide +kernel
theorem bits : ∀ i, i < 23 → rowB i 23 = decide (lowN i = 0) ∧ rowB i 24 = decide (lowN i = 1) ∧ rowB i 25 = decide (lowN i = 2) ∧ rowB i 26 = decide (lowN i = 0) ∧ rowB i 27 = decide (lowN i = 1) ∧ rowB i 28 = decide (lowN i = 2) := by decide +kernel
theorem ifF {c : Bool} {A B : Prop} (h : c = false) (b : B) : if c = true then A else B := by
  rw [h, if_neg Bool.false_ne_true]
  exact b
theorem cut_upto (xs : List V) (i : Nat) : cutV xs none (some (i : Int)) = xs.take i := by
  unfold cutV
  rw [HT.sIx_none, HT.sIx_nat, Nat.sub_zero, List.drop_zero]
  rcases Nat.le_total i xs.length with h | h
  · rw [Nat.min_eq_left h]
  · rw [Nat.min_eq_right h, List.take_of_length_le (Nat.le_refl _), List.take_of_length_le h]
theorem cut_from (xs : List V) (i : Nat) : cutV xs (some (i : Int)) none = xs.drop i := by
  unfold cutV
  rw [HT.sIx_none, HT.sIx_nat]
  rcases Nat.le_total i xs.length with h | h
  · rw [Nat.min_eq_left h, List.take_of_length_le]
    rw [List.length_drop]
    exact Nat.le_refl _
  · rw [Nat.min_eq_right h, Nat.sub_self, List.drop_of_length_le h]
    rfl
/-- a slice of a tuple: itself or a new one -/
theorem look1 {f : Str} {v : V} : ([(f, v)] : List (Str × V)).lookup f = some v := by
  simp [List.lookup]
theorem look2a {f g : Str} {v w : V} : ([(g, w), (f, v)] : List (Str × V)).lookup g = some w := by
  simp [List.lookup]
theorem look2b {f g : Str} {v w : V} (h : f ≠ g) : ([(g, w), (f, v)] : List (Str × V)).lookup f = some v := by
  have e : (f == g) = false := by simpa using h
  simp [List.lookup, e]
end MH
namespace MH
open PySem PySem.Spec PyProof.Rows L2
theorem sum_small {n : Nat} : ∀ xs : List PyData, (∀ d ∈ xs, d.shown.length ≤ n) → ((PyData.shownAll xs).map (·.length)).sum + 2 * (PyData.shownAll xs).length ≤ xs.length * (n + 2)
  | [], _ => by simp [PyData.shownAll]
  | x :: xs, h => by
    have a := h x List.mem_cons_self
    have b := sum_small xs fun d hd => h d (List.mem_cons_of_mem _ hd)
    rw [PyData.shownAll, List.map_cons, List.sum_cons, List.length_cons, List.length_cons, Nat.add_mul]
    omega
theorem all_show : ∀ xs : List PyData, (∀ d ∈ xs, d.showable = true) → PyData.showableAll xs = true
  | [], _ => by simp only [PyData.showableAll]
  | x :: xs, h => by
    rw [PyData.showableAll, h x List.mem_cons_self, all_show xs fun d hd => h d (List.mem_cons_of_mem _ hd)]
    rfl
theorem all_depth {m : Nat} : ∀ xs : List PyData, (∀ d ∈ xs, d.depth ≤ m) → PyData.depthAll xs ≤ m
  | [], _ => by simp [PyData.depthAll]
  | x :: xs, h => by
    have a := h x List.mem_cons_self
    have b := all_depth xs fun d hd => h d (List.mem_cons_of_mem _ hd)
    rw [PyData.depthAll]
    exact Nat.max_le.mpr ⟨a, b⟩
def Sm (m n : Nat) (d : PyData) : Prop := d.showable = true ∧ d.depth ≤ m ∧ d.shown.length ≤ n
theorem sm_list {m n k : Nat} {xs : List PyData} (h : ∀ d ∈ xs, Sm m n d) (hk : xs.length * (n + 2) + 3 ≤ k) : Sm (m + 1) k (.list xs) := by
  refine ⟨?_, ?_, ?_⟩
  · rw [PyData.showable]
    exact all_show xs fun d hd => (h d hd).1
  · rw [PyData.depth]
    exact Nat.succ_le_succ (all_depth xs fun d hd => (h d hd).2.1)
  · have q := sum_small xs fun d hd => (h d hd).2.2
    have q2 := listText_len_le (PyData.shownAll xs)
    rw [PyData.shown]
    omega
theorem sm_tuple {m n k : Nat} {xs : List PyData} (h : ∀ d ∈ xs, Sm m n d) (hk : xs.length * (n + 2) + 3 ≤ k) : Sm (m + 1) k (.tuple xs) := by
  refine ⟨?_, ?_, ?_⟩
  · rw [PyData.showable]
    exact all_show xs fun d hd => (h d hd).1
  · rw [PyData.depth]
    exact Nat.succ_le_succ (all_depth xs fun d hd => (h d hd).2.1)
  · have q := sum_small xs fun d hd => (h d hd).2.2
    have q2 := tupleText_len_le (PyData.shownAll xs)
    rw [PyData.shown]
    omega
theorem sm13 : ∀ d ∈ things13, Sm 3 200 d := by
  have one : ∀ d, okD d = true → cost d ≤ 200 → d.depth ≤ 3 → Sm 3 200 d := fun d h c e => ⟨ok_show d h, e, Nat.le_trans (shown_le d h) c⟩
  intro d hd
  unfold things13 at hd
  simp only [List.mem_cons, List.not_mem_nil, or_false] at hd
  rcases hd with rfl | rfl | rfl | rfl | rfl | rfl | rfl | rfl | rfl | rfl | rfl | rfl | rfl
  iterate 11 exact one _ (by decide +kernel) (by decide +kernel) (by decide +kernel)
  · refine ⟨by simp only [PyData.showable, PyData.showableKv], by simp only [PyData.depth, PyData.depthKv]; omega, ?_⟩
    rw [PyData.shown_dict, PyData.shownKv_nil]
    decide +kernel
  · refine ⟨by simp only [PyData.showable, PyData.showableKv, PyData.showableAll]; rfl, by simp only [PyData.depth, PyData.depthKv, PyData.depthAll]; omega, ?_⟩
    have h1 : (PyData.str "a").shown.length ≤ 12 := shown_le (.str "a") (by decide +kernel)
    have h2 : (PyData.tuple []).shown.length ≤ 3 := shown_le (.tuple []) (by decide +kernel)
    rw [PyData.shown]
    unfold dictText
    simp only [PyData.shownKv, Str.join]
    rw [strLen_append, strLen_append, strLen_append, strLen_append]
    have h3 : ("{" : Str).length = 1 := by decide +kernel
    have h4 : ("}" : Str).length = 1 := by decide +kernel
    have h5 : (": " : Str).length = 2 := by decide +kernel
    omega
theorem sm_use {m n : Nat} {d : PyData} (h : Sm m n d) (hm : m ≤ 60) (hn : n ≤ 100000) : d.showable = true ∧ d.depth ≤ 60 ∧ d.shown.length ≤ sizeLine := ⟨h.1, Nat.le_trans h.2.1 hm, le_line (Nat.le_trans h.2.2 hn)⟩
theorem show38 {d : PyData} (h : d ∈ things13) : Sm 4 10000 (.list (List.replicate 38 d)) := sm_list (fun e he => by
  rw [List.eq_of_mem_replicate he]
  exact sm13 d h) (by rw [List.length_replicate]; decide)
theorem sm_up {m n k : Nat} {d : PyData} (h : Sm m n d) (hk : n ≤ k) : Sm m k d := ⟨h.1, h.2.1, Nat.le_trans h.2.2 hk⟩
theorem sm_dep {m n k : Nat} {d : PyData} (h : Sm m n d) (hk : m ≤ k) : Sm k n d := ⟨h.1, Nat.le_trans h.2.1 hk, h.2.2⟩
theorem show3 {d e : PyData} (h : d ∈ things13) (g : e ∈ things13) : Sm 6 10000 (.list [.list [d, d], .list [d, d], .list [.tuple [d, e], .tuple [d, e]]]) := by
  have a : Sm 4 1000 (.list [d, d]) := sm_list (n := 200) (fun x hx => by
    simp only [List.mem_cons, List.not_mem_nil, or_false, or_self] at hx
    rw [hx]
    exact sm13 d h) (by show 2 * 202 + 3 ≤ 1000; decide)
  have b : Sm 4 500 (.tuple [d, e]) := sm_tuple (n := 200) (fun x hx => by
    simp only [List.mem_cons, List.not_mem_nil, or_false] at hx
    rcases hx with rfl | rfl
    · exact sm13 _ h
    · exact sm13 _ g) (by show 2 * 202 + 3 ≤ 500; decide)
  have c : Sm 5 2000 (.list [.tuple [d, e], .tuple [d, e]]) := sm_list (n := 500) (fun x hx => by
    simp only [List.mem_cons, List.not_mem_nil, or_false, or_self] at hx
    rw [hx]
    exact b) (by show 2 * 502 + 3 ≤ 2000; decide)
  refine sm_list (n := 2000) (fun x hx => ?_) (by show 3 * 2002 + 3 ≤ 10000; decide)
  simp only [List.mem_cons, List.not_mem_nil, or_false] at hx
  rcases hx with rfl | rfl | rfl
  · exact sm_dep (sm_up a (by decide)) (by decide)
  · exact sm_dep (sm_up a (by decide)) (by decide)
  · exact c
theorem flat38 (v : V) : (List.replicate (38 : Int).toNat [v]).flatten = List.replicate 38 v := rfl
theorem flat2 (v : V) : (List.replicate (2 : Int).toNat [v]).flatten = [v, v] := rfl
def tLow : TE := fun σ H Q => ∃ k : Nat, σ[8]? = some (some (.int (k : Int))) ∧ Q (.int (lowN k : Nat)) H
theorem ite2 {c : Bool} {A B : Prop} (a : c = true → A) (b : ¬ c = true → B) : if c = true then A else B := by
  by_cases h : c = true
  · rw [if_pos h]
    exact a h
  · rw [if_neg h]
    exact b h
theorem iteT {A B : Prop} (a : A) : if true = true then A else B := by
  rw [if_pos rfl]
  exact a
def spRight : Sp := fun vs H Q _ => ∃ p, vs = [.ref p] ∧ Pu H p ∧ ∀ H', SameB p H H' → Q (.bl true) H'
section
variable {P : Program} {w : World} {K : PySem.W.Frag} {mg : Str → Option Value} {base : Heap}
theorem g_l_right (T : Tx K mg) : FnG P w K mg base 4 T.a_l_right spRight := by
  refine fun_g T.F_l_right sc_l_right T.b_l_right (fun vs H Q E h => ?_) (fun cdv A outer s H vs Q hg hr h => ?_)
  · obtain ⟨p, rfl, _⟩ := h
    rfl
  · obtain ⟨p, rfl, pu, k⟩ := h
    refine ⟨_, (pss_cons (ps_par (i := 1) (j := 2) rfl sc_l_right.nd rfl rfl (by decide) rfl rfl (pa_cons (pe_call (ok_l_thing T) (hr.mono (by decide)) rfl T.g_l_thing T.F_l_thing.kp T.b_l_thing .nil pass0 (pa_cons (pv 0) pa_nil)) (pa_cons (pe_call (ok_l_thing T) (hr.mono (by decide)) rfl T.g_l_thing T.F_l_thing.kp T.b_l_thing .nil pass0 (pa_cons (pv 0) pa_nil)) pa_nil)) (by rfl))
      (pss_cons (ps_set (i := 3) sc_l_right.nd rfl (Or.inl rfl) (pe_op op_cat (pe_call (ok_l_given T) (hr.mono (by decide)) rfl T.g_l_given T.F_l_given.kp T.b_l_given .nil pass0 (pa_cons (pv 1) pa_nil)) (pe_call (ok_l_index T) (hr.mono (by decide)) rfl T.g_l_index T.F_l_index.kp T.b_l_index .nil pass0 (pa_cons (pv 1) pa_nil))))
      (pss_cons (ps_set (i := 5) sc_l_right.nd rfl (Or.inl rfl) (pe_op op_cat (pe_lc (own := [("_law_pair", 4)]) (g := gName 4) (tt := tYes) rfl sc_l_right.nd (pi_list (pe_slice sl_list (pv 3) po_none (po_some pe_int))) (blkOk_by (own := [("_law_pair", 4)]) (N := names_l_right) (sc := defScope st_l_right) (by decide +kernel)) (fun _ _ _ _ _ => pg_name (i := 4) sc_l_right.nd rfl (Or.inl rfl)) (fun _ _ _ _ _ => pts_nil) (fun _ _ _ _ _ => (pe_xv (K := K) (by rfl) (pe_ix (r := rIxT K) ix_tup (pv 4) pe_int (fun _ _ => rfl))))) (pe_lc (own := [("_law_pair", 4)]) (g := gName 4) (tt := tYes) rfl sc_l_right.nd (pi_list (pe_slice sl_list (pv 3) po_none (po_some pe_int))) (blkOk_by (own := [("_law_pair", 4)]) (N := names_l_right) (sc := defScope st_l_right) (by decide +kernel)) (fun _ _ _ _ _ => pg_name (i := 4) sc_l_right.nd rfl (Or.inl rfl)) (fun _ _ _ _ _ => pts_nil) (fun _ _ _ _ _ => (pe_xv (K := K) (by rfl) (pe_ix (r := rIxT K) ix_tup (pv 4) pe_int (fun _ _ => rfl)))))))
      (pss_cons (ps_set (i := 5) sc_l_right.nd rfl (Or.inl rfl) (pe_op op_cat (pe_op op_cat (pv 5) (pe_lc (own := [("_law_pair", 4)]) (g := gName 4) (tt := tYes) rfl sc_l_right.nd (pi_list (pe_slice sl_list (pv 3) (po_some pe_int) po_none)) (blkOk_by (own := [("_law_pair", 4)]) (N := names_l_right) (sc := defScope st_l_right) (by decide +kernel)) (fun _ _ _ _ _ => pg_name (i := 4) sc_l_right.nd rfl (Or.inl rfl)) (fun _ _ _ _ _ => pts_nil) (fun _ _ _ _ _ => (pe_xv (K := K) (by rfl) (pe_ix (r := rIxT K) ix_tup (pv 4) pe_int (fun _ _ => rfl)))))) (pe_lc (own := [("_law_pair", 4)]) (g := gName 4) (tt := tYes) rfl sc_l_right.nd (pi_list (pe_slice sl_list (pv 3) (po_some pe_int) po_none)) (blkOk_by (own := [("_law_pair", 4)]) (N := names_l_right) (sc := defScope st_l_right) (by decide +kernel)) (fun _ _ _ _ _ => pg_name (i := 4) sc_l_right.nd rfl (Or.inl rfl)) (fun _ _ _ _ _ => pts_nil) (fun _ _ _ _ _ => (pe_xv (K := K) (by rfl) (pe_ix (r := rIxT K) ix_tup (pv 4) pe_int (fun _ _ => rfl)))))))
      (pss_cons (ps_if (pt_cmpR op_ne (pe_callB (call_reprX hg hr.units) (by rfl) T.n_repr (by decide +kernel) (pa_cons (pv 5) pa_nil)) (pe_callB (call_reprX hg hr.units) (by rfl) T.n_repr (by decide +kernel) (pa_cons (pe_op op_rep (pe_lst (pa_cons (pv 1) pa_nil)) pe_int) pa_nil)) (nomark _))
        (pss_one (ps_ret pe_bl))
        pss_nil)
      (pss_cons (ps_set (i := 6) sc_l_right.nd rfl (Or.inl rfl) (pe_lst (pa_cons (PE.weak (t' := tPair K T.E_TooMany "number" 1) (pe_tup (pa_cons (pe_mkV T.ox_TooMany T.ic_TooMany T.ti_TooMany (ok_TooManyD_initD T) (hr.mono (by decide)) T.b_TooManyD_initD pass0 rfl T.g_TooMany (pa_cons (pv 1) pa_nil)) (pa_cons (pe_mkVK T.ox_TooMany T.ic_TooMany T.ti_TooMany (ok_TooManyD_initD T) (hr.mono (by decide)) T.kb_TooManyD_initD pass0 rfl T.g_TooMany (pk_cons (pv 1) pk_nil)) pa_nil))) (fun σ H Q h => pair_weak h)) (pa_cons (PE.weak (t' := tPair K T.E_NoHouse "menu" 1) (pe_tup (pa_cons (pe_mkV T.ox_NoHouse T.ic_NoHouse T.ti_NoHouse (ok_NoHouseD_initD T) (hr.mono (by decide)) T.b_NoHouseD_initD pass0 rfl T.g_NoHouse (pa_cons (pv 1) pa_nil)) (pa_cons (pe_mkVK T.ox_NoHouse T.ic_NoHouse T.ti_NoHouse (ok_NoHouseD_initD T) (hr.mono (by decide)) T.kb_NoHouseD_initD pass0 rfl T.g_NoHouse (pk_cons (pv 1) pk_nil)) pa_nil))) (fun σ H Q h => pair_weak h)) pa_nil))))
      (pss_cons (ps_set (i := 6) sc_l_right.nd rfl (Or.inl rfl) (pe_op op_cat (pv 6) (pe_lst (pa_cons (pe_tup (pa_cons (pe_mkV T.ox_NoTable T.ic_NoTable T.ti_NoTable (ok_NoTableD_initD T) (hr.mono (by decide)) T.b_NoTableD_initD pass0 rfl T.g_NoTable (pa_cons (pv 1) (pa_cons (pv 2) pa_nil))) (pa_cons (pe_mkVK T.ox_NoTable T.ic_NoTable T.ti_NoTable (ok_NoTableD_initD T) (hr.mono (by decide)) T.kb_NoTableD_initD pass0 rfl T.g_NoTable (pk_cons (pv 2) (pk_cons (pv 1) pk_nil))) pa_nil))) (pa_cons (pe_tup (pa_cons (pe_exc0 T.ox_NothingToUndo T.xi_NothingToUndo rfl T.g_NothingToUndo) (pa_cons (pe_exc0 T.ox_NothingToUndo T.xi_NothingToUndo rfl T.g_NothingToUndo) pa_nil))) pa_nil)))))
      (pss_cons (ps_set (i := 5) sc_l_right.nd rfl (Or.inl rfl) (pe_lst (pa_cons (pe_lc (own := [("_law_e", 7)]) (g := gName 7) (tt := tYes) rfl sc_l_right.nd (pi_tup (pe_ix ix_list (pv 6) pe_int (fun _ _ => rfl))) (blkOk_by (own := [("_law_e", 7)]) (N := names_l_right) (sc := defScope st_l_right) (by decide +kernel)) (fun _ _ _ _ _ => pg_name (i := 7) sc_l_right.nd rfl (Or.inl rfl)) (fun _ _ _ _ _ => pts_nil) (fun _ _ _ _ _ => (pe_xv (K := K) (by rfl) (pv 7)))) (pa_cons (pe_lc (own := [("_law_e", 7)]) (g := gName 7) (tt := tYes) rfl sc_l_right.nd (pi_tup (pe_ix ix_list (pv 6) pe_int (fun _ _ => rfl))) (blkOk_by (own := [("_law_e", 7)]) (N := names_l_right) (sc := defScope st_l_right) (by decide +kernel)) (fun _ _ _ _ _ => pg_name (i := 7) sc_l_right.nd rfl (Or.inl rfl)) (fun _ _ _ _ _ => pts_nil) (fun _ _ _ _ _ => (pe_xv (K := K) (by rfl) (pv 7)))) (pa_cons (pe_lc (own := [("_law_e", 7)]) (g := gName 7) (tt := tYes) rfl sc_l_right.nd (pi_tup (pe_ix ix_list (pv 6) pe_int (fun _ _ => rfl))) (blkOk_by (own := [("_law_e", 7)]) (N := names_l_right) (sc := defScope st_l_right) (by decide +kernel)) (fun _ _ _ _ _ => pg_name (i := 7) sc_l_right.nd rfl (Or.inl rfl)) (fun _ _ _ _ _ => pts_nil) (fun _ _ _ _ _ => (pe_tup (pa_cons (pe_xv (K := K) (by rfl) (pv 7)) (pa_cons (pe_xv (K := K) (by rfl) (pv 7)) pa_nil))))) pa_nil)))))
      (pss_cons (ps_if (pt_cmpR op_ne (pe_callB (call_reprX hg hr.units) (by rfl) T.n_repr (by decide +kernel) (pa_cons (pv 5) pa_nil)) (pe_callB (call_reprX hg hr.units) (by rfl) T.n_repr (by decide +kernel) (pa_cons (pe_lst (pa_cons (pe_op op_rep (pe_lst (pa_cons (pv 1) pa_nil)) pe_int) (pa_cons (pe_op op_rep (pe_lst (pa_cons (pv 1) pa_nil)) pe_int) (pa_cons (pe_op op_rep (pe_lst (pa_cons (pe_tup (pa_cons (pv 1) (pa_cons (pv 2) pa_nil))) pa_nil)) pe_int) pa_nil)))) pa_nil)) (nomark _))
        (pss_one (ps_ret pe_bl))
        pss_nil)
      (pss_cons (ps_for PassesOwn.never rfl (pi_enum (by rfl) T.n_enumerate (pa_cons (pe_op op_cat (pv 3) (pv 6)) pa_nil)) (pg_tup rfl (pgs_cons (pg_name (i := 8) sc_l_right.nd rfl (Or.inl rfl)) (pgs_cons (pg_name (i := 4) sc_l_right.nd rfl (Or.inl rfl)) pgs_nil)))
        (pss_cons (ps_set (i := 9) sc_l_right.nd rfl (Or.inl rfl) (PE.weak (t' := tLow) (pe_ifExp (PW.pt (pw_or (pt_cmpR op_lt (pv 8) pe_int (nomark _)) (pw_or1 (pt_chain op_lt op_lt pe_int (pv 8) pe_int)))) pe_int (pe_ifExp (pt_cmpR op_eq (pv 8) pe_int (nomark _)) pe_int pe_int)) (by
          intro σ H Q h
          obtain ⟨k, e, q⟩ := h
          refine ⟨_, e, _, _, rfl, rfl, _, rfl, ite2 (fun c => ?_) (fun c => ?_)⟩
          · have c := of_decide_eq_true c
            refine iteT ?_
            have l : lowN k = 0 := if_pos (Or.inl (by omega))
            rw [l] at q
            exact q
          · have c : ¬ (k : Int) < 9 := fun z => c (decide_eq_true z)
            refine ⟨_, e, 9, k, rfl, rfl, _, rfl, ite2 (fun c2 => ?_) (fun c2 => ?_)⟩
            · have c2 : (9 : Int) < k := of_decide_eq_true c2
              refine ⟨k, 17, rfl, rfl, _, rfl, ite2 (fun c3 => ?_) (fun c3 => ?_)⟩
              · have c3 : (k : Int) < 17 := of_decide_eq_true c3
                have l : lowN k = 0 := if_pos (Or.inr (by omega))
                rw [l] at q
                exact q
              · have c3 : ¬ (k : Int) < 17 := fun z => c3 (decide_eq_true z)
                have l : lowN k = 2 := by
                  unfold lowN
                  rw [if_neg (by omega), if_neg (by omega)]
                rw [l] at q
                refine ⟨_, e, rfl, _, rfl, ite2 (fun c4 => ?_) (fun c4 => q)⟩
                have c4 := of_decide_eq_true c4
                exact absurd (show (k : Int) = 9 from by simpa using c4) (by omega)
            · have c2 : ¬ (9 : Int) < k := fun z => c2 (decide_eq_true z)
              have l : lowN k = 1 := by
                unfold lowN
                rw [if_neg (by omega), if_pos (by omega)]
              rw [l] at q
              have k9 : k = 9 := by omega
              subst k9
              refine ⟨false, rfl, ?_⟩
              refine ⟨_, e, rfl, _, rfl, ite2 (fun c4 => q) (fun c4 => ?_)⟩
              exact absurd (by rfl) c4)))
      (pss_one (ps_for PassesOwn.never rfl (pi_tup (pv 4)) (pg_name (i := 7) sc_l_right.nd rfl (Or.inl rfl))
        (pss_cons (ps_set (i := 10) sc_l_right.nd rfl (Or.inl rfl) (pe_call (ok_l_flags T) (hr.mono (by decide)) rfl T.g_l_flags T.F_l_flags.kp T.b_l_flags .nil pass0 (pa_cons (pv 7) pa_nil)))
      (pss_cons (ps_if (PW.pt (pw_or (pt_cmpR op_ne (pe_bm PySem.F.plainAttrs_list PySem.F.slot_list_count PySem.F.type_list_count (mt_bcount hr.units) (pv 10) (pa_cons pe_bl pa_nil)) pe_int (nomark _)) (pw_or1 (pt_not (pt_val (pe_ix ix_list (pv 10) (pv 8) (fun _ _ => rfl)))))))
        (pss_one (ps_ret pe_bl))
        pss_nil)
      (pss_one (ps_if (pt_cmpR (op_neD hr.units) (pe_call (ok_l_bases T) (hr.mono (by decide)) rfl T.g_l_bases T.F_l_bases.kp T.b_l_bases .nil pass0 (pa_cons (pv 7) pa_nil)) (pe_op op_rep (pe_lst (pa_cons (pe_lst (pa_cons (pe_cmpR op_eq (pv 9) pe_int (nomark _)) (pa_cons (pe_cmpR op_eq (pv 9) pe_int (nomark _)) (pa_cons (pe_cmpR op_eq (pv 9) pe_int (nomark _)) pa_nil)))) pa_nil)) pe_int) (nomark _))
        (pss_one (ps_ret pe_bl))
        pss_nil))))))))
      (pss_one (ps_ret pe_bl)))))))))))), ?_⟩
    refine ⟨_, rfl, p, rfl, pu, fun v1 d1 H1 m1 K1 sb1 u1 => ⟨_, rfl, p, rfl, u1, fun v2 d2 H2 m2 K2 sb2 u2 => ?_⟩⟩
    have DA := K1 H2 sb2
    have DB := K2 H2 (SameB.refl _ _)
    refine ⟨_, _, rfl, ?_⟩
    refine ⟨_, rfl, v1, rfl, fun pG ysG H3 s3 hG PG => ⟨_, rfl, v1, rfl, fun pI ysI H4 s4 hI PI => ⟨pG, pI, ysG, ysI, rfl, rfl, s4 _ _ hG, hI, ?_, fun R nR => ?_⟩⟩⟩
    · rw [pairs_len PG, pairs_len PI]
      exact (by decide : 19 ≤ sizeLine)
    have lG : ysG.length = 10 := pairs_len PG
    have lI : ysI.length = 9 := pairs_len PI
    have s45 : Same H4 (upd H4 R (.lst (ysG ++ ysI))) := Same.new nR
    have hR : (upd H4 R (.lst (ysG ++ ysI))) R = some (.lst (ysG ++ ysI)) := upd_same
    generalize upd H4 R (.lst (ysG ++ ysI)) = H5 at s45 hR ⊢
    have s25 := (s3.trans s4).trans s45
    have okG5 : ∀ y ∈ ysG, PairO K H5 "given" v1 y := fun y hy => ((pairs_ok PG (okG T) y hy).same s4).same s45
    have okI5 : ∀ y ∈ ysI, PairO K H5 "index" v1 y := fun y hy => (pairs_ok PI (okI T) y hy).same s45
    have cG : cutV (ysG ++ ysI) none (some (10 : Int)) = ysG := by
      rw [show (10 : Int) = ((10 : Nat) : Int) from rfl, cut_upto, ← lG, List.take_left]
    have cI : cutV (ysG ++ ysI) (some (10 : Int)) none = ysI := by
      rw [show (10 : Int) = ((10 : Nat) : Int) from rfl, cut_from, ← lG, List.drop_left]
    refine ⟨_, rfl, 10, rfl, R, _, rfl, lst_of ((Same.refl H5) _ _ hR), fun S1 nS1 => ?_⟩
    rw [cG]
    have hS1 : (upd H5 S1 (.lst ysG)) S1 = some (.lst ysG) := upd_same
    have sS1 : Same H5 (upd H5 S1 (.lst ysG)) := (Same.refl H5).new' nS1
    have tS1 : Same H5 (upd H5 S1 (.lst ysG)) := Same.new nS1
    generalize upd H5 S1 (.lst ysG) = G1 at hS1 sS1 tS1 ⊢
    refine ⟨S1, rfl, ⟨_, lst_of hS1⟩, fun D1 nD1 => lc_list (K := K) (a := S1) (xs := ysG) (fun i H' => Same G1 H' ∧ H' D1 = some (.lst (List.replicate i v1))) ⟨Same.new nD1, upd_same⟩ (fun i H' _ h => lst_of (h.1 _ _ hS1)) ?_ ?_⟩
    · rintro i y H' hy ⟨s', e'⟩
      have hi : i < 1000 := by
        have := (List.getElem?_eq_some_iff.mp hy).1
        omega
      refine ⟨rfl, ?_⟩
      obtain ⟨C, ⟨q, a, b, rfl, hT, ea, eb⟩, ek, no⟩ := (((okG5 y (List.mem_of_getElem? hy)).same sS1).same s')
      refine ⟨_, rfl, q, _, 0, _, rfl, rfl, hT, rfl, a, C, _, v1, rfl, ea, ek, no, look1, ?_⟩
      obtain ⟨acc, h1, h2, h3, h4⟩ := kept_go (v := v1) hi s' nD1 e'
      exact ⟨acc, h1, h2, h3, h4⟩
    rintro F1 ⟨s', e1⟩
    rw [lG] at e1
    have sF1 : Same H5 F1 := sS1.trans s'
    have tF1 : Same H5 F1 := tS1.trans s'
    clear s'
    refine ⟨_, rfl, 10, rfl, R, _, rfl, lst_of (sF1 _ _ hR), fun S2 nS2 => ?_⟩
    rw [cG]
    have hS2 : (upd F1 S2 (.lst ysG)) S2 = some (.lst ysG) := upd_same
    have sS2 : Same H5 (upd F1 S2 (.lst ysG)) := sF1.new' nS2
    have tS2 : Same F1 (upd F1 S2 (.lst ysG)) := Same.new nS2
    generalize upd F1 S2 (.lst ysG) = G2 at hS2 sS2 tS2 ⊢
    refine ⟨S2, rfl, ⟨_, lst_of hS2⟩, fun D2 nD2 => lc_list (K := K) (a := S2) (xs := ysG) (fun i H' => Same G2 H' ∧ H' D2 = some (.lst (List.replicate i v1))) ⟨Same.new nD2, upd_same⟩ (fun i H' _ h => lst_of (h.1 _ _ hS2)) ?_ ?_⟩
    · rintro i y H' hy ⟨s', e'⟩
      have hi : i < 1000 := by
        have := (List.getElem?_eq_some_iff.mp hy).1
        omega
      refine ⟨rfl, ?_⟩
      obtain ⟨C, ⟨q, a, b, rfl, hT, ea, eb⟩, ek, no⟩ := (((okG5 y (List.mem_of_getElem? hy)).same sS2).same s')
      refine ⟨_, rfl, q, _, 1, _, rfl, rfl, hT, rfl, b, C, _, v1, rfl, eb, ek, no, look1, ?_⟩
      obtain ⟨acc, h1, h2, h3, h4⟩ := kept_go (v := v1) hi s' nD2 e'
      exact ⟨acc, h1, h2, h3, h4⟩
    rintro F2 ⟨s', e2⟩
    rw [lG] at e2
    have sF2 : Same H5 F2 := sS2.trans s'
    have tF2 : Same F1 F2 := tS2.trans s'
    clear s'
    refine ⟨D1, D2, List.replicate 10 v1, List.replicate 10 v1, rfl, rfl, tF2 _ _ e1, e2, (by show 20 ≤ sizeLine; decide), fun M1 nM1 => ?_⟩
    have sM1 : Same H5 (upd F2 M1 (.lst (List.replicate 10 v1 ++ List.replicate 10 v1))) := sF2.new' nM1
    have hM1 : (upd F2 M1 (.lst (List.replicate 10 v1 ++ List.replicate 10 v1))) M1 = some (.lst (List.replicate 10 v1 ++ List.replicate 10 v1)) := upd_same
    generalize upd F2 M1 (.lst (List.replicate 10 v1 ++ List.replicate 10 v1)) = G0 at sM1 hM1 ⊢
    refine ⟨_, rfl, _, rfl, 10, rfl, R, _, rfl, lst_of (sM1 _ _ hR), fun S3 nS3 => ?_⟩
    rw [cI]
    have hS3 : (upd G0 S3 (.lst ysI)) S3 = some (.lst ysI) := upd_same
    have sS3 : Same H5 (upd G0 S3 (.lst ysI)) := sM1.new' nS3
    have tS3 : Same G0 (upd G0 S3 (.lst ysI)) := Same.new nS3
    generalize upd G0 S3 (.lst ysI) = G3 at hS3 sS3 tS3 ⊢
    refine ⟨S3, rfl, ⟨_, lst_of hS3⟩, fun D3 nD3 => lc_list (K := K) (a := S3) (xs := ysI) (fun i H' => Same G3 H' ∧ H' D3 = some (.lst (List.replicate i v1))) ⟨Same.new nD3, upd_same⟩ (fun i H' _ h => lst_of (h.1 _ _ hS3)) ?_ ?_⟩
    · rintro i y H' hy ⟨s', e'⟩
      have hi : i < 1000 := by
        have := (List.getElem?_eq_some_iff.mp hy).1
        omega
      refine ⟨rfl, ?_⟩
      obtain ⟨C, ⟨q, a, b, rfl, hT, ea, eb⟩, ek, no⟩ := (((okI5 y (List.mem_of_getElem? hy)).same sS3).same s')
      refine ⟨_, rfl, q, _, 0, _, rfl, rfl, hT, rfl, a, C, _, v1, rfl, ea, ek, no, look1, ?_⟩
      obtain ⟨acc, h1, h2, h3, h4⟩ := kept_go (v := v1) hi s' nD3 e'
      exact ⟨acc, h1, h2, h3, h4⟩
    rintro F3 ⟨s', e3⟩
    rw [lI] at e3
    have sF3 : Same H5 F3 := sS3.trans s'
    have tF3 : Same G0 F3 := tS3.trans s'
    clear s'
    refine ⟨M1, D3, List.replicate 10 v1 ++ List.replicate 10 v1, List.replicate 9 v1, rfl, rfl, tF3 _ _ hM1, e3, (by show 29 ≤ sizeLine; decide), fun M2 nM2 => ?_⟩
    have sM2 : Same H5 (upd F3 M2 (.lst (List.replicate 10 v1 ++ List.replicate 10 v1 ++ List.replicate 9 v1))) := sF3.new' nM2
    have hM2 : (upd F3 M2 (.lst (List.replicate 10 v1 ++ List.replicate 10 v1 ++ List.replicate 9 v1))) M2 = some (.lst (List.replicate 10 v1 ++ List.replicate 10 v1 ++ List.replicate 9 v1)) := upd_same
    generalize upd F3 M2 (.lst (List.replicate 10 v1 ++ List.replicate 10 v1 ++ List.replicate 9 v1)) = G00 at sM2 hM2 ⊢
    refine ⟨_, rfl, 10, rfl, R, _, rfl, lst_of (sM2 _ _ hR), fun S4 nS4 => ?_⟩
    rw [cI]
    have hS4 : (upd G00 S4 (.lst ysI)) S4 = some (.lst ysI) := upd_same
    have sS4 : Same H5 (upd G00 S4 (.lst ysI)) := sM2.new' nS4
    have tS4 : Same G00 (upd G00 S4 (.lst ysI)) := Same.new nS4
    generalize upd G00 S4 (.lst ysI) = G4 at hS4 sS4 tS4 ⊢
    refine ⟨S4, rfl, ⟨_, lst_of hS4⟩, fun D4 nD4 => lc_list (K := K) (a := S4) (xs := ysI) (fun i H' => Same G4 H' ∧ H' D4 = some (.lst (List.replicate i v1))) ⟨Same.new nD4, upd_same⟩ (fun i H' _ h => lst_of (h.1 _ _ hS4)) ?_ ?_⟩
    · rintro i y H' hy ⟨s', e'⟩
      have hi : i < 1000 := by
        have := (List.getElem?_eq_some_iff.mp hy).1
        omega
      refine ⟨rfl, ?_⟩
      obtain ⟨C, ⟨q, a, b, rfl, hT, ea, eb⟩, ek, no⟩ := (((okI5 y (List.mem_of_getElem? hy)).same sS4).same s')
      refine ⟨_, rfl, q, _, 1, _, rfl, rfl, hT, rfl, b, C, _, v1, rfl, eb, ek, no, look1, ?_⟩
      obtain ⟨acc, h1, h2, h3, h4⟩ := kept_go (v := v1) hi s' nD4 e'
      exact ⟨acc, h1, h2, h3, h4⟩
    rintro F4 ⟨s', e4⟩
    rw [lI] at e4
    have sF4 : Same H5 F4 := sS4.trans s'
    have tF4 : Same G00 F4 := tS4.trans s'
    clear s'
    refine ⟨M2, D4, List.replicate 10 v1 ++ List.replicate 10 v1 ++ List.replicate 9 v1, List.replicate 9 v1, rfl, rfl, tF4 _ _ hM2, e4, (by show 38 ≤ sizeLine; decide), fun M3 nM3 => ?_⟩
    have sM3 : Same H5 (upd F4 M3 (.lst (List.replicate 10 v1 ++ List.replicate 10 v1 ++ List.replicate 9 v1 ++ List.replicate 9 v1))) := sF4.new' nM3
    have hM3 : (upd F4 M3 (.lst (List.replicate 10 v1 ++ List.replicate 10 v1 ++ List.replicate 9 v1 ++ List.replicate 9 v1))) M3 = some (.lst (List.replicate 38 v1)) := upd_same
    generalize upd F4 M3 (.lst (List.replicate 10 v1 ++ List.replicate 10 v1 ++ List.replicate 9 v1 ++ List.replicate 9 v1)) = HK at sM3 hM3 ⊢
    have s2K : Same H2 HK := s25.trans sM3
    obtain ⟨w1, w2, w3⟩ := sm_use (show38 m1) (by decide) (by decide)
    refine ⟨_, rfl, M3, _, _, rfl, hM3, DXs.rep (DA.same s2K) 38, w1, w2, w3, _, rfl, (by show 1 ≤ sizeLine; decide), fun l nl => ⟨l, 38, [v1], rfl, rfl, upd_same, by decide, by decide, (by show 38 ≤ sizeLine; decide), fun r nr => ?_⟩⟩
    have sX : Same HK (upd (upd HK l (.lst [v1])) r (.lst (List.replicate (38 : Int).toNat [v1]).flatten)) := (Same.new nl).new' nr
    have hX : (upd (upd HK l (.lst [v1])) r (.lst (List.replicate (38 : Int).toNat [v1]).flatten)) r = some (.lst (List.replicate 38 v1)) := upd_same
    generalize upd (upd HK l (.lst [v1])) r (.lst (List.replicate (38 : Int).toNat [v1]).flatten) = X0 at sX hX ⊢
    refine ⟨r, _, _, rfl, hX, DXs.rep (DA.same (s2K.trans sX)) 38, w1, w2, w3, rfl, _, rfl, ifF (by simp) ?_⟩
    have s5X : Same H5 X0 := sM3.trans sX
    refine ⟨v1, rfl, fun y1 J1 j1 q1 => ⟨v1, rfl, fun y2 J2 j2 q2 => ⟨(by show 2 ≤ sizeLine; decide), fun L1 nL1 => ?_⟩⟩⟩
    have j3 : Same J2 (upd J2 L1 (.lst [y1, y2])) := Same.new nL1
    have hL1 : (upd J2 L1 (.lst [y1, y2])) L1 = some (.lst [y1, y2]) := upd_same
    generalize upd J2 L1 (.lst [y1, y2]) = J3 at j3 hL1 ⊢
    refine ⟨_, rfl, _, rfl, _, rfl, (by show 2 ≤ 1000; decide), made_v2 fun a3 J4 j4 e3a => ⟨_, rfl, _, rfl, rfl, made_v2 fun b3 J5 j5 e3b => ⟨(by show 2 ≤ sizeLine; decide), fun p3 np3 => ?_⟩⟩⟩
    have j6 : Same J5 (upd J5 p3 (.tup [.ref a3, .ref b3])) := Same.new np3
    have hp3 : (upd J5 p3 (.tup [.ref a3, .ref b3])) p3 = some (.tup [.ref a3, .ref b3]) := upd_same
    generalize upd J5 p3 (.tup [.ref a3, .ref b3]) = J6 at j6 hp3 ⊢
    refine fun a4 na4 => ?_
    have j7 : Same J6 (upd J6 a4 (exo a4 T.E_NothingToUndo none)) := Same.new na4
    have ha4 : (upd J6 a4 (exo a4 T.E_NothingToUndo none)) a4 = some (exo a4 T.E_NothingToUndo none) := upd_same
    generalize upd J6 a4 (exo a4 T.E_NothingToUndo none) = J7 at j7 ha4 ⊢
    refine fun b4 nb4 => ?_
    have j8 : Same J7 (upd J7 b4 (exo b4 T.E_NothingToUndo none)) := Same.new nb4
    have hb4 : (upd J7 b4 (exo b4 T.E_NothingToUndo none)) b4 = some (exo b4 T.E_NothingToUndo none) := upd_same
    generalize upd J7 b4 (exo b4 T.E_NothingToUndo none) = J8 at j8 hb4 ⊢
    refine ⟨(by show 2 ≤ sizeLine; decide), fun p4 np4 => ?_⟩
    have j9 : Same J8 (upd J8 p4 (.tup [.ref a4, .ref b4])) := Same.new np4
    have hp4 : (upd J8 p4 (.tup [.ref a4, .ref b4])) p4 = some (.tup [.ref a4, .ref b4]) := upd_same
    generalize upd J8 p4 (.tup [.ref a4, .ref b4]) = J9 at j9 hp4 ⊢
    refine ⟨(by show 2 ≤ sizeLine; decide), fun q5 nq5 => ?_⟩
    have j10 : Same J9 (upd J9 q5 (.lst [.ref p3, .ref p4])) := Same.new nq5
    have hq5 : (upd J9 q5 (.lst [.ref p3, .ref p4])) q5 = some (.lst [.ref p3, .ref p4]) := upd_same
    generalize upd J9 q5 (.lst [.ref p3, .ref p4]) = J10 at j10 hq5 ⊢
    have j3a : Same J3 J10 := (((((j4.trans j5).trans j6).trans j7).trans j8).trans j9).trans j10
    refine ⟨L1, q5, [y1, y2], [.ref p3, .ref p4], rfl, rfl, j3a _ _ hL1, hq5, (by show 4 ≤ sizeLine; decide), fun L2 nL2 => ?_⟩
    have j11 : Same J10 (upd J10 L2 (.lst ([y1, y2] ++ [.ref p3, .ref p4]))) := Same.new nL2
    have hL2 : (upd J10 L2 (.lst ([y1, y2] ++ [.ref p3, .ref p4]))) L2 = some (.lst [y1, y2, .ref p3, .ref p4]) := upd_same
    generalize upd J10 L2 (.lst ([y1, y2] ++ [.ref p3, .ref p4])) = N0 at j11 hL2 ⊢
    -- what the last pairs are
    have s3N : Same J3 N0 := j3a.trans j11
    have g1 : PairV K N0 y1 T.E_TooMany [("number", v1)] := ((q1.same j2).same j3).same s3N
    have g2 : PairV K N0 y2 T.E_NoHouse [("menu", v1)] := (q2.same j3).same s3N
    have k6 : Same J6 N0 := ((((j7.trans j8).trans j9).trans j10).trans j11)
    have g3 : PairV K N0 (.ref p3) T.E_NoTable [("second", v2), ("first", v1)] := ⟨p3, a3, b3, rfl, tup_of (k6 _ _ hp3), ((e3a.same j5).same j6).same k6, (e3b.same j6).same k6⟩
    have k9 : Same J9 N0 := j10.trans j11
    have g4 : PairC K N0 (.ref p4) T.E_NothingToUndo := ⟨p4, a4, b4, rfl, tup_of (k9 _ _ hp4), .inr (k9 _ _ (j9 _ _ (j8 _ _ ha4))), .inr (k9 _ _ (j9 _ _ hb4))⟩
    have sXN : Same X0 N0 := ((j1.trans j2).trans j3).trans s3N
    clear q1 q2 e3a e3b hp3 hp4 ha4 hb4 hq5 hL1
    obtain ⟨c1, a1, b1, rfl, hT1, ea1, eb1⟩ := id g1
    obtain ⟨c2, a2, b2, rfl, hT2, ea2, eb2⟩ := id g2
    obtain ⟨c3, a3', b3', z3, hT3, ea3, eb3⟩ := id g3
    cases z3
    refine ⟨_, rfl, L2, _, 0, _, rfl, rfl, lst_of hL2, rfl, c1, rfl, ⟨_, hT1⟩, fun D1 nD1 => lc_tup (K := K) (a := c1) (xs := [.ref a1, .ref b1]) (fun i H' => Same N0 H' ∧ H' D1 = some (.lst (List.replicate i v1))) ⟨Same.new nD1, upd_same⟩ (fun i H' _ h => h.1.sqt hT1) ?_ ?_⟩
    · rintro i y H' hy ⟨s', e'⟩
      have hi : i < 1000 := by
        have := (List.getElem?_eq_some_iff.mp hy).1
        have l2 : ([V.ref a1, V.ref b1] : List V).length = 2 := rfl
        omega
      refine ⟨rfl, ?_⟩
      obtain ⟨a, rfl, ea⟩ : ∃ a, y = V.ref a ∧ ErV H' a T.E_TooMany [("number", v1)] := by
        rcases List.mem_cons.mp (List.mem_of_getElem? hy) with rfl | hy
        · exact ⟨_, rfl, ea1.same s'⟩
        · exact ⟨_, List.mem_singleton.mp hy, eb1.same s'⟩
      refine ⟨_, rfl, a, _, _, v1, rfl, ea, T.ek_TooMany, T.no_TooMany_number, look1, ?_⟩
      obtain ⟨acc, h1, h2, h3, h4⟩ := kept_go (v := v1) hi s' nD1 e'
      exact ⟨acc, h1, h2, h3, h4⟩
    rintro N1 ⟨t1, f1⟩
    refine ⟨_, rfl, L2, _, 1, _, rfl, rfl, lst_of (t1 _ _ hL2), rfl, c2, rfl, ⟨_, t1.sqt hT2⟩, fun D2 nD2 => lc_tup (K := K) (a := c2) (xs := [.ref a2, .ref b2]) (fun i H' => Same N1 H' ∧ H' D2 = some (.lst (List.replicate i v1))) ⟨Same.new nD2, upd_same⟩ (fun i H' _ h => h.1.sqt (t1.sqt hT2)) ?_ ?_⟩
    · rintro i y H' hy ⟨s', e'⟩
      have hi : i < 1000 := by
        have := (List.getElem?_eq_some_iff.mp hy).1
        have l2 : ([V.ref a2, V.ref b2] : List V).length = 2 := rfl
        omega
      refine ⟨rfl, ?_⟩
      obtain ⟨a, rfl, ea⟩ : ∃ a, y = V.ref a ∧ ErV H' a T.E_NoHouse [("menu", v1)] := by
        rcases List.mem_cons.mp (List.mem_of_getElem? hy) with rfl | hy
        · exact ⟨_, rfl, (ea2.same t1).same s'⟩
        · exact ⟨_, List.mem_singleton.mp hy, (eb2.same t1).same s'⟩
      refine ⟨_, rfl, a, _, _, v1, rfl, ea, T.ek_NoHouse, T.no_NoHouse_menu, look1, ?_⟩
      obtain ⟨acc, h1, h2, h3, h4⟩ := kept_go (v := v1) hi s' nD2 e'
      exact ⟨acc, h1, h2, h3, h4⟩
    rintro N2 ⟨t2, f2⟩
    have t02 : Same N0 N2 := t1.trans t2
    refine ⟨_, rfl, L2, _, 2, _, rfl, rfl, lst_of (t02 _ _ hL2), rfl, p3, rfl, ⟨_, t02.sqt hT3⟩, fun D3 nD3 => lc_tup (K := K) (a := p3) (xs := [.ref a3', .ref b3']) (fun i H' => Same N2 H' ∧ ∃ ts : List Addr, ts.length = i ∧ H' D3 = some (.lst (ts.map V.ref)) ∧ ∀ t ∈ ts, SqT K H' t [v1, v2]) ⟨Same.new nD3, [], rfl, upd_same, fun t ht => nomatch ht⟩ (fun i H' _ h => h.1.sqt (t02.sqt hT3)) ?_ ?_⟩
    · rintro i y H' hy ⟨s', ts, lt, e', ht⟩
      have hi : i < 1000 := by
        have := (List.getElem?_eq_some_iff.mp hy).1
        have l2 : ([V.ref a3', V.ref b3'] : List V).length = 2 := rfl
        omega
      refine ⟨rfl, ?_⟩
      obtain ⟨a, rfl, ea⟩ : ∃ a, y = V.ref a ∧ ErV H' a T.E_NoTable [("second", v2), ("first", v1)] := by
        rcases List.mem_cons.mp (List.mem_of_getElem? hy) with rfl | hy
        · exact ⟨_, rfl, (ea3.same t02).same s'⟩
        · exact ⟨_, List.mem_singleton.mp hy, (eb3.same t02).same s'⟩
      refine ⟨_, rfl, a, _, _, v1, rfl, ea, T.ek_NoTable, T.no_NoTable_first, look2b (by decide +kernel), _, rfl, a, _, _, v2, rfl, ea, T.ek_NoTable, T.no_NoTable_second, look2a, (by show 2 ≤ sizeLine; decide), fun t nt => ?_⟩
      have nDt : D3 ≠ t := ne_of_none e' nt
      refine ⟨_, (upd_ne nDt).trans e', lt_line (by rw [List.length_map]; omega), fun b o h => ?_, ts ++ [t], by rw [List.length_append, lt]; rfl, ?_, fun u hu => ?_⟩
      · rw [upd_ne (ne_of_none h nD3)]
        exact (Same.new nt) _ _ (s' _ _ h)
      · rw [upd_same, List.map_append]
        rfl
      · have sD : Same H' (upd H' t (.tup [v1, v2])) := Same.new nt
        have keep : ∀ {x : Addr}, SqT K (upd H' t (.tup [v1, v2])) x [v1, v2] → SqT K (upd (upd H' t (.tup [v1, v2])) D3 (.lst (ts.map V.ref ++ [.ref t]))) x [v1, v2] := fun {x} h => by
          rcases h with (h | ⟨o, h⟩) | h
          · exact .inl (.inl ((upd_ne (fun z => by rw [z, (upd_ne nDt).trans e'] at h; cases h)).trans h))
          · exact .inl (.inr ⟨o, (upd_ne (fun z => by rw [z, (upd_ne nDt).trans e'] at h; cases h)).trans h⟩)
          · exact .inr h
        rcases List.mem_append.mp hu with hu | hu
        · exact keep (sD.sqt (ht u hu))
        · rw [List.mem_singleton.mp hu]
          exact keep (tup_of upd_same)
    rintro N3 ⟨t3, ts, lt, f3, ht⟩
    obtain ⟨ta, tb, rfl⟩ : ∃ ta tb, ts = [ta, tb] := by
      have lt2 : ts.length = 2 := lt
      match ts, lt2 with
      | [ta, tb], _ => exact ⟨ta, tb, rfl⟩
    have hta := ht ta (by simp)
    have htb := ht tb (by simp)
    refine ⟨(by show 3 ≤ sizeLine; decide), fun Kp nKp => ?_⟩
    have sK : Same N3 (upd N3 Kp (.lst [.ref D1, .ref D2, .ref D3])) := Same.new nKp
    have hKp : (upd N3 Kp (.lst [.ref D1, .ref D2, .ref D3])) Kp = some (.lst [.ref D1, .ref D2, .ref D3]) := upd_same
    generalize upd N3 Kp (.lst [.ref D1, .ref D2, .ref D3]) = NK at sK hKp ⊢
    have tNK : Same N0 NK := (t02.trans t3).trans sK
    have s2N : Same H2 NK := ((s2K.trans sX).trans sXN).trans tNK
    have dA : DX K NK v1 d1 := DA.same s2N
    have dB : DX K NK v2 d2 := DB.same s2N
    have b1' : NK D1 = some (.lst [v1, v1]) := sK _ _ (t3 _ _ (t2 _ _ f1))
    have b2' : NK D2 = some (.lst [v1, v1]) := sK _ _ (t3 _ _ f2)
    have b3' : NK D3 = some (.lst [.ref ta, .ref tb]) := sK _ _ f3
    have dL : DXs K NK [.ref D1, .ref D2, .ref D3] [.list [d1, d1], .list [d1, d1], .list [.tuple [d1, d2], .tuple [d1, d2]]] :=
      .cons (.lst b1' (.cons dA (.cons dA .nil))) (.cons (.lst b2' (.cons dA (.cons dA .nil))) (.cons (.lst b3' (.cons (.tup (sK.sqt hta) (.cons dA (.cons dB .nil))) (.cons (.tup (sK.sqt htb) (.cons dA (.cons dB .nil))) .nil))) .nil))
    obtain ⟨w4, w5, w6⟩ := sm_use (show3 m1 m2) (by decide) (by decide)
    refine ⟨_, rfl, Kp, _, _, rfl, hKp, dL, w4, w5, w6, _, rfl, (by show 1 ≤ sizeLine; decide), fun x1 nx1 => ⟨x1, 2, [v1], rfl, rfl, upd_same, by decide, by decide, (by show 2 ≤ sizeLine; decide), fun x2 nx2 => ?_⟩⟩
    have o1 : Same NK (upd (upd NK x1 (.lst [v1])) x2 (.lst (List.replicate (2 : Int).toNat [v1]).flatten)) := (Same.new nx1).new' nx2
    have h2 : (upd (upd NK x1 (.lst [v1])) x2 (.lst (List.replicate (2 : Int).toNat [v1]).flatten)) x2 = some (.lst [v1, v1]) := upd_same
    generalize upd (upd NK x1 (.lst [v1])) x2 (.lst (List.replicate (2 : Int).toNat [v1]).flatten) = O1 at o1 h2 ⊢
    refine ⟨_, rfl, (by show 1 ≤ sizeLine; decide), fun x3 nx3 => ⟨x3, 2, [v1], rfl, rfl, upd_same, by decide, by decide, (by show 2 ≤ sizeLine; decide), fun x4 nx4 => ?_⟩⟩
    have o2 : Same O1 (upd (upd O1 x3 (.lst [v1])) x4 (.lst (List.replicate (2 : Int).toNat [v1]).flatten)) := (Same.new nx3).new' nx4
    have h4 : (upd (upd O1 x3 (.lst [v1])) x4 (.lst (List.replicate (2 : Int).toNat [v1]).flatten)) x4 = some (.lst [v1, v1]) := upd_same
    generalize upd (upd O1 x3 (.lst [v1])) x4 (.lst (List.replicate (2 : Int).toNat [v1]).flatten) = O2 at o2 h4 ⊢
    refine ⟨_, rfl, _, rfl, (by show 2 ≤ sizeLine; decide), fun x5 nx5 => ?_⟩
    have o3 : Same O2 (upd O2 x5 (.tup [v1, v2])) := Same.new nx5
    have h5 : (upd O2 x5 (.tup [v1, v2])) x5 = some (.tup [v1, v2]) := upd_same
    generalize upd O2 x5 (.tup [v1, v2]) = O3 at o3 h5 ⊢
    refine ⟨(by show 1 ≤ sizeLine; decide), fun x6 nx6 => ⟨x6, 2, [.ref x5], rfl, rfl, upd_same, by decide, by decide, (by show 2 ≤ sizeLine; decide), fun x7 nx7 => ?_⟩⟩
    have o4 : Same O3 (upd (upd O3 x6 (.lst [.ref x5])) x7 (.lst (List.replicate (2 : Int).toNat [V.ref x5]).flatten)) := (Same.new nx6).new' nx7
    have h7 : (upd (upd O3 x6 (.lst [.ref x5])) x7 (.lst (List.replicate (2 : Int).toNat [V.ref x5]).flatten)) x7 = some (.lst [.ref x5, .ref x5]) := upd_same
    generalize upd (upd O3 x6 (.lst [.ref x5])) x7 (.lst (List.replicate (2 : Int).toNat [V.ref x5]).flatten) = O4 at o4 h7 ⊢
    refine ⟨(by show 3 ≤ sizeLine; decide), fun x8 nx8 => ?_⟩
    have o5 : Same O4 (upd O4 x8 (.lst [.ref x2, .ref x4, .ref x7])) := Same.new nx8
    have h8 : (upd O4 x8 (.lst [.ref x2, .ref x4, .ref x7])) x8 = some (.lst [.ref x2, .ref x4, .ref x7]) := upd_same
    generalize upd O4 x8 (.lst [.ref x2, .ref x4, .ref x7]) = O5 at o5 h8 ⊢
    have oK : Same NK O5 := (((o1.trans o2).trans o3).trans o4).trans o5
    have eA : DX K O5 v1 d1 := dA.same oK
    have eB : DX K O5 v2 d2 := dB.same oK
    have z2 : O5 x2 = some (.lst [v1, v1]) := o5 _ _ (o4 _ _ (o3 _ _ (o2 _ _ h2)))
    have z4 : O5 x4 = some (.lst [v1, v1]) := o5 _ _ (o4 _ _ (o3 _ _ h4))
    have z5 : O5 x5 = some (.tup [v1, v2]) := o5 _ _ (o4 _ _ h5)
    have z7 : O5 x7 = some (.lst [.ref x5, .ref x5]) := o5 _ _ h7
    have dR : DXs K O5 [.ref x2, .ref x4, .ref x7] [.list [d1, d1], .list [d1, d1], .list [.tuple [d1, d2], .tuple [d1, d2]]] :=
      .cons (.lst z2 (.cons eA (.cons eA .nil))) (.cons (.lst z4 (.cons eA (.cons eA .nil))) (.cons (.lst z7 (.cons (.tup (tup_of z5) (.cons eA (.cons eB .nil))) (.cons (.tup (tup_of z5) (.cons eA (.cons eB .nil))) .nil))) .nil))
    refine ⟨x8, _, _, rfl, h8, dR, w4, w5, w6, rfl, _, rfl, ifF (by simp) ?_⟩
    have s5O : Same H5 O5 := ((s5X.trans sXN).trans tNK).trans oK
    have sNO : Same N0 O5 := tNK.trans oK
    refine ⟨_, rfl, _, rfl, R, L2, _, _, rfl, rfl, s5O _ _ hR, sNO _ _ hL2, ?_, fun Z nZ => ?_⟩
    · rw [List.length_append, lG, lI]
      exact (by decide : 23 ≤ sizeLine)
    have sZ : Same O5 (upd O5 Z (.lst (ysG ++ ysI ++ [V.ref c1, V.ref c2, V.ref p3, V.ref p4]))) := Same.new nZ
    have hZ : (upd O5 Z (.lst (ysG ++ ysI ++ [V.ref c1, V.ref c2, V.ref p3, V.ref p4]))) Z = some (.lst (ysG ++ ysI ++ [V.ref c1, V.ref c2, V.ref p3, V.ref p4])) := upd_same
    generalize upd O5 Z (.lst (ysG ++ ysI ++ [V.ref c1, V.ref c2, V.ref p3, V.ref p4])) = HZ at sZ hZ ⊢
    have sNZ : Same N0 HZ := sNO.trans sZ
    have s5Z : Same H5 HZ := s5O.trans sZ
    have all : Paired (fun y C => PairC K HZ y C) (ysG ++ ysI ++ [V.ref c1, V.ref c2, V.ref p3, V.ref p4]) (cs23 T) :=
      paired_app (paired_app (paired_c ((s4.trans s45).trans s5Z) PG) (paired_c (s45.trans s5Z) PI)) (.cons ((g1.same sNZ).toC) (.cons ((g2.same sNZ).toC) (.cons ((g3.same sNZ).toC) (.cons (g4.same sNZ) .nil))))
    have zl : (ysG ++ ysI ++ [V.ref c1, V.ref c2, V.ref p3, V.ref p4]).length = 23 := Paired.length all
    have sZ0 : SameB p H HZ := ((sb1.trans sb2).trans (SameB.of s25)).trans (SameB.of s5Z)
    generalize ysG ++ ysI ++ [V.ref c1, V.ref c2, V.ref p3, V.ref p4] = zs at hZ all zl ⊢
    clear PG PI hR okG5 okI5 cG cI g1 g2 g3 g4 hL2 dL dR dA dB eA eB DA DB
    refine ⟨Z, _, rfl, lst_of hZ, for_it walk_enum (fun i σ H' => Same HZ H' ∧ ∃ v4 v7 v8 v9 v10 : Option V, σ = [some (.ref p), some v1, some v2, some (.ref R), v4, some (.ref Kp), some (.ref L2), v7, v8, v9, v10])
      ⟨Same.refl HZ, none, none, none, none, none, rfl⟩ (fun i σ H' _ h => lst_of (h.1 _ _ hZ)) ?_ ?_⟩
    · rintro i x σ H1' H2' hi ⟨s1', v4, v7, v8, v9, v10, rfl⟩ ⟨t, y1', y2', rfl, nt, rfl, ee1, ee2⟩
      cases ee1
      obtain ⟨C, hC, hy⟩ := paired_get all ee2
      obtain ⟨C', hC', ek, row⟩ := tab T i (by omega)
      rw [hC] at hC'
      cases hC'
      have st := s1'.new' nt (o := .tup [.int (i : Nat), y2'])
      obtain ⟨q, a, b, rfl, hT, ea, eb⟩ := hy.same st
      refine ⟨t, _, rfl, tup_of upd_same, rfl, _, _, rfl, _, _, rfl, rfl, ?_⟩
      refine ⟨i, rfl, ?_⟩
      generalize upd H1' t (.tup [.int (i : Nat), .ref q]) = HT at st hT ea eb ⊢
      refine ⟨_, rfl, q, rfl, ⟨_, hT⟩, for_tup (K := K) (a := q) (xs := [.ref a, .ref b]) (fun j σ H' => Same HT H' ∧ ∃ v7 v10 : Option V, σ = [some (.ref p), some v1, some v2, some (.ref R), some (.ref q), some (.ref Kp), some (.ref L2), v7, some (.int (i : Nat)), some (.int (lowN i : Nat)), v10])
        ⟨Same.refl HT, v7, v10, rfl⟩ (fun j σ H' _ h => h.1.sqt hT) ?_ ?_⟩
      · rintro j x σ H3' hx ⟨s3', v7, v10, rfl⟩
        obtain ⟨ax, rfl, ex⟩ : ∃ ax, x = V.ref ax ∧ ErC H3' ax C := by
          rcases List.mem_cons.mp (List.mem_of_getElem? hx) with rfl | hx
          · exact ⟨_, rfl, ea.same s3'⟩
          · exact ⟨_, List.mem_singleton.mp hx, eb.same s3'⟩
        refine ⟨_, rfl, ax, C, rowB i, rfl, ex, ek, row, fun pf H4' s4' hf => ?_⟩
        refine ⟨_, rfl, .inl ⟨rfl, _, lst_of hf⟩, pf, flagsOf (rowB i), true, rfl, rfl, lst_of hf, (by show 23 ≤ 1000; decide), ?_⟩
        rw [cnt1 i (by omega)]
        refine ⟨rfl, _, rfl, ifF (by rfl) ?_⟩
        refine ⟨_, rfl, _, rfl, pf, _, (i : Nat), V.bl true, rfl, rfl, lst_of hf, atI_nat (flag1 i (by omega)), true, rfl, iteF ?_⟩
        refine ⟨_, rfl, ax, C, rowB i, rfl, ex.same s4', ek, row, fun pb q1 q2 H5' s5' hb h1' h2' => ?_⟩
        refine ⟨_, rfl, rfl, _, rfl, rfl, _, rfl, rfl, (by show 3 ≤ sizeLine; decide), fun m1 nm1 => ?_⟩
        rw [int_eq0, int_eq1, int_eq2]
        have s6 : Same H5' (upd H5' m1 (.lst [V.bl (decide (lowN i = 0)), V.bl (decide (lowN i = 1)), V.bl (decide (lowN i = 2))])) := Same.new nm1
        have hm1 : (upd H5' m1 (.lst [V.bl (decide (lowN i = 0)), V.bl (decide (lowN i = 1)), V.bl (decide (lowN i = 2))])) m1 = some (.lst [V.bl (decide (lowN i = 0)), V.bl (decide (lowN i = 1)), V.bl (decide (lowN i = 2))]) := upd_same
        generalize upd H5' m1 (.lst [V.bl (decide (lowN i = 0)), V.bl (decide (lowN i = 1)), V.bl (decide (lowN i = 2))]) = H6' at s6 hm1 ⊢
        refine ⟨(by show 1 ≤ sizeLine; decide), fun m2 nm2 => ⟨m2, 2, [.ref m1], rfl, rfl, upd_same, by decide, by decide, (by show 2 ≤ sizeLine; decide), fun m3 nm3 => ?_⟩⟩
        have s7 : Same H6' (upd (upd H6' m2 (.lst [.ref m1])) m3 (.lst (List.replicate (2 : Int).toNat [V.ref m1]).flatten)) := (Same.new nm2).new' nm3
        have hm3 : (upd (upd H6' m2 (.lst [.ref m1])) m3 (.lst (List.replicate (2 : Int).toNat [V.ref m1]).flatten)) m3 = some (.lst [.ref m1, .ref m1]) := upd_same
        generalize upd (upd H6' m2 (.lst [.ref m1])) m3 (.lst (List.replicate (2 : Int).toNat [V.ref m1]).flatten) = H7' at s7 hm3 ⊢
        obtain ⟨g0, g1, g2, g3, g4, g5⟩ := bits i (by omega)
        have hm1' := s7 _ _ hm1
        have hb' := s7 _ _ (s6 _ _ hb)
        have h1'' : H7' q1 = some (.lst [V.bl (decide (lowN i = 0)), V.bl (decide (lowN i = 1)), V.bl (decide (lowN i = 2))]) := by
          have z := s7 _ _ (s6 _ _ h1')
          rw [z]
          show some (HO.lst [V.bl (rowB i 23), V.bl (rowB i 24), V.bl (rowB i 25)]) = _
          rw [g0, g1, g2]
        have h2'' : H7' q2 = some (.lst [V.bl (decide (lowN i = 0)), V.bl (decide (lowN i = 1)), V.bl (decide (lowN i = 2))]) := by
          have z := s7 _ _ (s6 _ _ h2')
          rw [z]
          show some (HO.lst [V.bl (rowB i 26), V.bl (rowB i 27), V.bl (rowB i 28)]) = _
          rw [g3, g4, g5]
        generalize decide (lowN i = 0) = x0 at h1'' h2'' hm1' ⊢
        generalize decide (lowN i = 1) = x1 at h1'' h2'' hm1' ⊢
        generalize decide (lowN i = 2) = x2 at h1'' h2'' hm1' ⊢
        have three : ∀ {a : Addr}, H7' a = some (.lst [V.bl x0, V.bl x1, V.bl x2]) → Dp K H7' (.ref a) (.list [.bool x0, .bool x1, .bool x2]) := fun {a} e => .lst (lst_of e) (.cons (.bl _) (.cons (.bl _) (.cons (.bl _) .nil)))
        refine ⟨_, _, .lst (lst_of hb') (.cons (three h1'') (.cons (three h2'') .nil)), .lst (lst_of hm3) (.cons (three hm1') (.cons (three hm1') .nil)), shp6 x0 x1 x2, shp6 x0 x1 x2, _, rfl, ifF (by rw [eqv6]; rfl) ?_⟩
        exact ⟨((((s3'.trans s4').trans s5').trans s6).trans s7), _, _, rfl⟩
      · rintro σ H3' ⟨s3', v7, v10, rfl⟩
        exact ⟨st.trans s3', _, _, _, _, _, rfl⟩
    · rintro σ H1' ⟨s1', v4, v7, v8, v9, v10, rfl⟩
      exact k H1' (sZ0.trans (SameB.of s1'))
end
end MH
namespace MH
open PySem PySem.Spec PyProof.Rows L2
theorem _root_.L2.Same.sql {K : PySem.W.Frag} {H H' : Hp} {a : Addr} {xs : List V} (e : Same H H') (h : SqL K H a xs) : SqL K H' a xs := by
  rcases h with (h | ⟨o, h⟩) | h
  · exact .inl (.inl (e _ _ h))
  · exact .inl (.inr ⟨o, e _ _ h⟩)
  · exact .inr h
def spLaw (K : PySem.W.Frag) : Sp := fun vs H Q _ => ∃ (a : Addr) (ns : List Int), vs = [.ref a] ∧ SqL K H a (ns.map V.int) ∧ ns.length ≤ 63 ∧ ∀ H', Q (.bl true) H'
section
variable {P : Program} {w : World} {K : PySem.W.Frag} {mg : Str → Option Value} {base : Heap}
theorem g_law (T : Tx K mg) : FnG P w K mg base 5 T.a_law (spLaw K) := by
  refine fun_g T.F_law sc_law T.b_law (fun vs H Q E h => ?_) (fun cdv A outer s H vs Q hg hr h => ?_)
  · obtain ⟨a, ns, rfl, _⟩ := h
    rfl
  · obtain ⟨a, ns, rfl, hS, hlen, k⟩ := h
    refine ⟨_, (pss_cons (ps_if (pt_cmpR (op_neD hr.units) (pe_lst (pa_cons (pe_glob (v := .int 10) rfl T.g_MOST_THINGS.choose_spec ⟨_, rfl⟩) (pa_cons (pe_glob (v := .int 24) rfl T.g_MOST_PEOPLE.choose_spec ⟨_, rfl⟩) (pa_cons (pe_glob (v := .int 12) rfl T.g_MOST_LOOKS.choose_spec ⟨_, rfl⟩) (pa_cons (pe_glob (v := .int 5) rfl T.g_TABLE_THINGS.choose_spec ⟨_, rfl⟩) pa_nil))))) (pe_lst (pa_cons pe_int (pa_cons pe_int (pa_cons pe_int (pa_cons pe_int pa_nil))))) (nomark _))
        (pss_one (ps_ret pe_bl))
        pss_nil)
      (pss_one (ps_ret (pe_callB (cr_all rfl) (by rfl) T.n_all (by decide +kernel) (pa_cons (pe_lc (own := [("_law_spot", 1)]) (g := gName 1) (tt := tYes) rfl sc_law.nd (pi_range1 (by rfl) T.n_range (pa_cons (pe_callB (call_max2 rfl) (by rfl) T.n_max (by decide +kernel) (pa_cons pe_int (pa_cons (pe_callB (call_min2 rfl) (by rfl) T.n_min (by decide +kernel) (pa_cons (pe_callB call_len_seq (by rfl) T.n_len (by decide +kernel) (pa_cons (pv 0) pa_nil)) (pa_cons pe_int pa_nil))) pa_nil))) pa_nil)) (blkOk_by (own := [("_law_spot", 1)]) (N := names_law) (sc := defScope st_law) (by decide +kernel)) (fun _ _ _ _ _ => pg_name (i := 1) sc_law.nd rfl (Or.inl rfl)) (fun _ _ _ _ _ => pts_nil) (fun _ _ _ _ _ => (pe_callg (g_l_right T) hg (hr.mono (by decide)) rfl T.g_l_right T.F_l_right.kp (pa_cons (pe_call (ok_l_purse T) (hr.mono (by decide)) rfl T.g_l_purse T.F_l_purse.kp T.b_l_purse .nil pass0 (pa_cons (pv 0) (pa_cons (pv 1) pa_nil))) pa_nil)))) pa_nil))))), ?_⟩
    refine ⟨(by show 4 ≤ sizeLine; decide), fun c1 n1 => ⟨(by show 4 ≤ sizeLine; decide), fun c2 n2 => ?_⟩⟩
    have s0 : Same H (upd (upd H c1 (.lst [.int 10, .int 24, .int 12, .int 5])) c2 (.lst [.int 10, .int 24, .int 12, .int 5])) := (Same.new n1).new' n2
    have h1 : (upd (upd H c1 (.lst [.int 10, .int 24, .int 12, .int 5])) c2 (.lst [.int 10, .int 24, .int 12, .int 5])) c1 = some (.lst [.int 10, .int 24, .int 12, .int 5]) := by
      rw [upd_ne (ne_of_none upd_same n2)]
      exact upd_same
    have h2 : (upd (upd H c1 (.lst [.int 10, .int 24, .int 12, .int 5])) c2 (.lst [.int 10, .int 24, .int 12, .int 5])) c2 = some (.lst [.int 10, .int 24, .int 12, .int 5]) := upd_same
    generalize upd (upd H c1 (.lst [.int 10, .int 24, .int 12, .int 5])) c2 (.lst [.int 10, .int 24, .int 12, .int 5]) = H0 at s0 h1 h2 ⊢
    have four : ∀ {a : Addr}, H0 a = some (.lst [.int 10, .int 24, .int 12, .int 5]) → Dp K H0 (.ref a) (.list [.int 10, .int 24, .int 12, .int 5]) := fun {a} e => .lst (lst_of e) (.cons (.int _) (.cons (.int _) (.cons (.int _) (.cons (.int _) .nil))))
    refine ⟨_, _, four h1, four h2, by decide +kernel, by decide +kernel, _, rfl, ifF (by decide +kernel) ?_⟩
    replace hS := s0.sql hS
    clear s0 h1 h2 four n1 n2
    generalize H0 = H at hS ⊢
    have hl : (ns.map V.int).length = ns.length := List.length_map _
    refine ⟨_, rfl, a, _, rfl, .inl hS, _, _, rfl, _, _, rfl, _, rfl, ?_, ?_, fun D nD => lc_range (lo := 0) (n := _) (fun i H' => Same H H' ∧ H' D = some (.lst (List.replicate i (V.bl true)))) ⟨Same.new nD, upd_same⟩ ?_ ?_⟩
    · omega
    · omega
    · rintro i H1 hi ⟨s1, e1⟩
      have hi : i < 100 := by omega
      refine ⟨rfl, ?_⟩
      rw [show (0 : Int) + (i : Int) = ((i : Nat) : Int) from Int.zero_add _]
      refine ⟨_, rfl, _, rfl, a, ns, i, rfl, s1.sql hS, hlen, by omega, fun H2 p s2 np pu => ⟨p, rfl, pu, fun H3 sb => ?_⟩⟩
      have nDp : D ≠ p := fun e => by
        rw [e, np] at e1
        cases e1
      have e3 := sb _ _ nDp (s2 _ _ e1)
      refine ⟨_, e3, lt_line (by rw [List.length_replicate]; omega), fun b o e => ?_, ?_⟩
      · rw [upd_ne (ne_of_none e nD)]
        have h1 := s1 _ _ e
        exact sb _ _ (ne_of_none h1 np) (s2 _ _ h1)
      · rw [upd_same, List.replicate_succ']
    · rintro H1 ⟨s1, e1⟩
      refine ⟨D, List.replicate _ true, rfl, lst_of (by rw [e1, List.map_replicate]), ?_⟩
      have e : ∀ n : Nat, (List.replicate n true).all id = true := fun n => List.all_eq_true.mpr fun b hb => List.eq_of_mem_replicate hb
      rw [e]
      exact k _
end
section
variable {P : Program} {w : World} {K : PySem.W.Frag} {mg : Str → Option Value} {base : Heap}
theorem walk0 {l : PySem.W.OpenLaw} {q : Program} {loose : List Str} {XP : (Str → Option Value) → Heap → Prop} {YP : World → Heap → Prop} {d : DefRec} {K : Params → PySem.W.Frag}
    (hn : l.most = some 63) (hdf : d.params.defaults = []) (hd : d.name = "law") (hY : ∀ (w : World) (h : Heap), YP w h → (K w.params).In h)
    (F : ∀ (w : World) (mg : Str → Option Value) (fa : Addr) (h : Heap), (K w.params).In h → h.Ns mainGlobals mg → mg "law" = some (.ref fa) → ∃ T : Tx (K w.params) mg, T.a_law = fa) : PySem.W.WalkO q loose XP YP l.row.toRowW d [] (fun f vs => PySem.call f vs) := by
  refine walk_g (sp := spLaw) (k := 5) hn (by decide) hdf ⟨rfl, by decide, by decide⟩ hY (fun w mg fa h KX G hmg base hb hg => ?_) fun K H a ns hl hS => ⟨a, ns, rfl, hS, hl, fun _ => rfl⟩
  rw [hd] at hmg
  obtain ⟨T, rfl⟩ := F w mg fa h KX G hmg
  exact g_law T
end
end MH
open PySem PySem.W PyProof.Rows in
set_option maxRecDepth 100000 in
set_option maxHeartbeats 0 in
theorem PySem.Challenge.cw_menuhouses_k01_constants_and_errors_holds : PySem.Challenge.rw_menuhouses_k01_constants_and_errors.Holds := by
  w_on; o_law; k_head; (case hw => w_witness2)
  k_fill
  refine MH.walk0 (l := PySem.Challenge.rw_menuhouses_k01_constants_and_errors) rfl rfl rfl (fun w h Y => PySem.W.kIn_of Y) ?F
  case F =>
    intro w mg fa h KX G hmg
    refine' MH.tx_of KX G hmg ?eg_WrongValue ?eg_InvalidText ?eg_InvalidMarks ?eg_InvalidIndex ?eg_InvalidWord ?eg_NotARanking ?eg_NotAHouse ?eg_NotALook ?eg_NotLooks ?eg_OtherThings ?eg_InvalidRow ?eg_InvalidMenu ?eg_InvalidThings ?eg_InvalidTaken ?eg_InvalidRankings ?eg_InvalidLooks ?eg_InvalidTable ?eg_WrongName ?eg_UnknownThing ?eg_NoAnswer ?eg_TooMany ?eg_NoHouse ?eg_NoTable ?eg_Clash ?eg_Broken ?eg_NothingToUndo ?xl_InvalidText ?xr_InvalidText ?xs_InvalidText ?xx_InvalidText ?xt_InvalidText ?xk_InvalidText ?xn_InvalidText ?xga_InvalidText ?xgg_InvalidText ?xhd_InvalidText ?xcl_InvalidText ?xca_InvalidText ?xcb_InvalidText ?xcc_InvalidText ?xob_InvalidText ?xl_InvalidMarks ?xr_InvalidMarks ?xs_InvalidMarks ?xx_InvalidMarks ?xt_InvalidMarks ?xk_InvalidMarks ?xn_InvalidMarks ?xga_InvalidMarks ?xgg_InvalidMarks ?xhd_InvalidMarks ?xcl_InvalidMarks ?xca_InvalidMarks ?xcb_InvalidMarks ?xcc_InvalidMarks ?xob_InvalidMarks ?xl_InvalidIndex ?xr_InvalidIndex ?xs_InvalidIndex ?xx_InvalidIndex ?xt_InvalidIndex ?xk_InvalidIndex ?xn_InvalidIndex ?xga_InvalidIndex ?xgg_InvalidIndex ?xhd_InvalidIndex ?xcl_InvalidIndex ?xca_InvalidIndex ?xcb_InvalidIndex ?xcc_InvalidIndex ?xob_InvalidIndex ?xl_InvalidWord ?xr_InvalidWord ?xs_InvalidWord ?xx_InvalidWord ?xt_InvalidWord ?xk_InvalidWord ?xn_InvalidWord ?xga_InvalidWord ?xgg_InvalidWord ?xhd_InvalidWord ?xcl_InvalidWord ?xca_InvalidWord ?xcb_InvalidWord ?xcc_InvalidWord ?xob_InvalidWord ?xl_NotARanking ?xr_NotARanking ?xs_NotARanking ?xx_NotARanking ?xt_NotARanking ?xk_NotARanking ?xn_NotARanking ?xga_NotARanking ?xgg_NotARanking ?xhd_NotARanking ?xcl_NotARanking ?xca_NotARanking ?xcb_NotARanking ?xcc_NotARanking ?xob_NotARanking ?xl_NotAHouse ?xr_NotAHouse ?xs_NotAHouse ?xx_NotAHouse ?xt_NotAHouse ?xk_NotAHouse ?xn_NotAHouse ?xga_NotAHouse ?xgg_NotAHouse ?xhd_NotAHouse ?xcl_NotAHouse ?xca_NotAHouse ?xcb_NotAHouse ?xcc_NotAHouse ?xob_NotAHouse ?xl_NotALook ?xr_NotALook ?xs_NotALook ?xx_NotALook ?xt_NotALook ?xk_NotALook ?xn_NotALook ?xga_NotALook ?xgg_NotALook ?xhd_NotALook ?xcl_NotALook ?xca_NotALook ?xcb_NotALook ?xcc_NotALook ?xob_NotALook ?xl_NotLooks ?xr_NotLooks ?xs_NotLooks ?xx_NotLooks ?xt_NotLooks ?xk_NotLooks ?xn_NotLooks ?xga_NotLooks ?xgg_NotLooks ?xhd_NotLooks ?xcl_NotLooks ?xca_NotLooks ?xcb_NotLooks ?xcc_NotLooks ?xob_NotLooks ?xl_OtherThings ?xr_OtherThings ?xs_OtherThings ?xx_OtherThings ?xt_OtherThings ?xk_OtherThings ?xn_OtherThings ?xga_OtherThings ?xgg_OtherThings ?xhd_OtherThings ?xcl_OtherThings ?xca_OtherThings ?xcb_OtherThings ?xcc_OtherThings ?xob_OtherThings ?xl_UnknownThing ?xr_UnknownThing ?xs_UnknownThing ?xx_UnknownThing ?xt_UnknownThing ?xk_UnknownThing ?xn_UnknownThing ?xga_UnknownThing ?xgg_UnknownThing ?xhd_UnknownThing ?xcl_UnknownThing ?xca_UnknownThing ?xcb_UnknownThing ?xcc_UnknownThing ?xob_UnknownThing ?xl_InvalidRow ?xr_InvalidRow ?xs_InvalidRow ?xx_InvalidRow ?xt_InvalidRow ?xk_InvalidRow ?xn_InvalidRow ?xga_InvalidRow ?xgg_InvalidRow ?xhd_InvalidRow ?xcl_InvalidRow ?xca_InvalidRow ?xcb_InvalidRow ?xcc_InvalidRow ?xob_InvalidRow ?xl_InvalidMenu ?xr_InvalidMenu ?xs_InvalidMenu ?xx_InvalidMenu ?xt_InvalidMenu ?xk_InvalidMenu ?xn_InvalidMenu ?xga_InvalidMenu ?xgg_InvalidMenu ?xhd_InvalidMenu ?xcl_InvalidMenu ?xca_InvalidMenu ?xcb_InvalidMenu ?xcc_InvalidMenu ?xob_InvalidMenu ?xl_InvalidThings ?xr_InvalidThings ?xs_InvalidThings ?xx_InvalidThings ?xt_InvalidThings ?xk_InvalidThings ?xn_InvalidThings ?xga_InvalidThings ?xgg_InvalidThings ?xhd_InvalidThings ?xcl_InvalidThings ?xca_InvalidThings ?xcb_InvalidThings ?xcc_InvalidThings ?xob_InvalidThings ?xl_InvalidTaken ?xr_InvalidTaken ?xs_InvalidTaken ?xx_InvalidTaken ?xt_InvalidTaken ?xk_InvalidTaken ?xn_InvalidTaken ?xga_InvalidTaken ?xgg_InvalidTaken ?xhd_InvalidTaken ?xcl_InvalidTaken ?xca_InvalidTaken ?xcb_InvalidTaken ?xcc_InvalidTaken ?xob_InvalidTaken ?xl_InvalidRankings ?xr_InvalidRankings ?xs_InvalidRankings ?xx_InvalidRankings ?xt_InvalidRankings ?xk_InvalidRankings ?xn_InvalidRankings ?xga_InvalidRankings ?xgg_InvalidRankings ?xhd_InvalidRankings ?xcl_InvalidRankings ?xca_InvalidRankings ?xcb_InvalidRankings ?xcc_InvalidRankings ?xob_InvalidRankings ?xl_InvalidLooks ?xr_InvalidLooks ?xs_InvalidLooks ?xx_InvalidLooks ?xt_InvalidLooks ?xk_InvalidLooks ?xn_InvalidLooks ?xga_InvalidLooks ?xgg_InvalidLooks ?xhd_InvalidLooks ?xcl_InvalidLooks ?xca_InvalidLooks ?xcb_InvalidLooks ?xcc_InvalidLooks ?xob_InvalidLooks ?xl_InvalidTable ?xr_InvalidTable ?xs_InvalidTable ?xx_InvalidTable ?xt_InvalidTable ?xk_InvalidTable ?xn_InvalidTable ?xga_InvalidTable ?xgg_InvalidTable ?xhd_InvalidTable ?xcl_InvalidTable ?xca_InvalidTable ?xcb_InvalidTable ?xcc_InvalidTable ?xob_InvalidTable ?xl_Clash ?xr_Clash ?xs_Clash ?xx_Clash ?xt_Clash ?xk_Clash ?xn_Clash ?xga_Clash ?xgg_Clash ?xhd_Clash ?xcl_Clash ?xca_Clash ?xcb_Clash ?xcc_Clash ?xob_Clash ?xl_Broken ?xr_Broken ?xs_Broken ?xx_Broken ?xt_Broken ?xk_Broken ?xn_Broken ?xga_Broken ?xgg_Broken ?xhd_Broken ?xcl_Broken ?xca_Broken ?xcb_Broken ?xcc_Broken ?xob_Broken ?xl_TooMany ?xr_TooMany ?xs_TooMany ?xx_TooMany ?xt_TooMany ?xk_TooMany ?xn_TooMany ?xga_TooMany ?xgg_TooMany ?xhd_TooMany ?xcl_TooMany ?xca_TooMany ?xcb_TooMany ?xcc_TooMany ?xob_TooMany ?xl_NoHouse ?xr_NoHouse ?xs_NoHouse ?xx_NoHouse ?xt_NoHouse ?xk_NoHouse ?xn_NoHouse ?xga_NoHouse ?xgg_NoHouse ?xhd_NoHouse ?xcl_NoHouse ?xca_NoHouse ?xcb_NoHouse ?xcc_NoHouse ?xob_NoHouse ?xl_NoTable ?xr_NoTable ?xs_NoTable ?xx_NoTable ?xt_NoTable ?xk_NoTable ?xn_NoTable ?xn_NoTable_second ?xga_NoTable ?xgg_NoTable ?xhd_NoTable ?xcl_NoTable ?xca_NoTable ?xcb_NoTable ?xcc_NoTable ?xob_NoTable ?xl_NothingToUndo ?xr_NothingToUndo ?xs_NothingToUndo ?xi_NothingToUndo ?xx_NothingToUndo ?xt_NothingToUndo ?xk_NothingToUndo ?xga_NothingToUndo ?xgg_NothingToUndo ?xhd_NothingToUndo ?xcl_NothingToUndo ?xca_NothingToUndo ?xcb_NothingToUndo ?xcc_NothingToUndo ?xob_NothingToUndo ?kt_InvalidText ?kt_InvalidMarks ?kt_InvalidIndex ?kt_InvalidWord ?kt_NotARanking ?kt_NotAHouse ?kt_NotALook ?kt_NotLooks ?kt_OtherThings ?kt_UnknownThing ?kt_InvalidRow ?kt_InvalidMenu ?kt_InvalidThings ?kt_InvalidTaken ?kt_InvalidRankings ?kt_InvalidLooks ?kt_InvalidTable ?kt_Clash ?kt_Broken ?kt_TooMany ?kt_NoHouse ?kt_NoTable ?kt_NothingToUndo ?a_InvalidTextD_initD ?ti_InvalidTextD_initD ?l_InvalidTextD_initD ?c_InvalidTextD_initD ?k_InvalidTextD_initD ?a_InvalidMarksD_initD ?ti_InvalidMarksD_initD ?l_InvalidMarksD_initD ?c_InvalidMarksD_initD ?k_InvalidMarksD_initD ?a_InvalidIndexD_initD ?ti_InvalidIndexD_initD ?l_InvalidIndexD_initD ?c_InvalidIndexD_initD ?k_InvalidIndexD_initD ?a_InvalidWordD_initD ?ti_InvalidWordD_initD ?l_InvalidWordD_initD ?c_InvalidWordD_initD ?k_InvalidWordD_initD ?a_NotARankingD_initD ?ti_NotARankingD_initD ?l_NotARankingD_initD ?c_NotARankingD_initD ?k_NotARankingD_initD ?a_NotAHouseD_initD ?ti_NotAHouseD_initD ?l_NotAHouseD_initD ?c_NotAHouseD_initD ?k_NotAHouseD_initD ?a_NotALookD_initD ?ti_NotALookD_initD ?l_NotALookD_initD ?c_NotALookD_initD ?k_NotALookD_initD ?a_NotLooksD_initD ?ti_NotLooksD_initD ?l_NotLooksD_initD ?c_NotLooksD_initD ?k_NotLooksD_initD ?a_OtherThingsD_initD ?ti_OtherThingsD_initD ?l_OtherThingsD_initD ?c_OtherThingsD_initD ?k_OtherThingsD_initD ?a_UnknownThingD_initD ?ti_UnknownThingD_initD ?l_UnknownThingD_initD ?c_UnknownThingD_initD ?k_UnknownThingD_initD ?a_InvalidRowD_initD ?ti_InvalidRowD_initD ?l_InvalidRowD_initD ?c_InvalidRowD_initD ?k_InvalidRowD_initD ?a_InvalidMenuD_initD ?ti_InvalidMenuD_initD ?l_InvalidMenuD_initD ?c_InvalidMenuD_initD ?k_InvalidMenuD_initD ?a_InvalidThingsD_initD ?ti_InvalidThingsD_initD ?l_InvalidThingsD_initD ?c_InvalidThingsD_initD ?k_InvalidThingsD_initD ?a_InvalidTakenD_initD ?ti_InvalidTakenD_initD ?l_InvalidTakenD_initD ?c_InvalidTakenD_initD ?k_InvalidTakenD_initD ?a_InvalidRankingsD_initD ?ti_InvalidRankingsD_initD ?l_InvalidRankingsD_initD ?c_InvalidRankingsD_initD ?k_InvalidRankingsD_initD ?a_InvalidLooksD_initD ?ti_InvalidLooksD_initD ?l_InvalidLooksD_initD ?c_InvalidLooksD_initD ?k_InvalidLooksD_initD ?a_InvalidTableD_initD ?ti_InvalidTableD_initD ?l_InvalidTableD_initD ?c_InvalidTableD_initD ?k_InvalidTableD_initD ?a_ClashD_initD ?ti_ClashD_initD ?l_ClashD_initD ?c_ClashD_initD ?k_ClashD_initD ?a_BrokenD_initD ?ti_BrokenD_initD ?l_BrokenD_initD ?c_BrokenD_initD ?k_BrokenD_initD ?a_TooManyD_initD ?ti_TooManyD_initD ?l_TooManyD_initD ?c_TooManyD_initD ?k_TooManyD_initD ?a_NoHouseD_initD ?ti_NoHouseD_initD ?l_NoHouseD_initD ?c_NoHouseD_initD ?k_NoHouseD_initD ?a_NoTableD_initD ?ti_NoTableD_initD ?l_NoTableD_initD ?c_NoTableD_initD ?k_NoTableD_initD ?a_l_purse ?l_l_purse ?c_l_purse ?k_l_purse ?a_l_draw ?l_l_draw ?c_l_draw ?k_l_draw ?a_l_given ?l_l_given ?c_l_given ?k_l_given ?a_l_index ?l_l_index ?c_l_index ?k_l_index ?a_l_flags ?l_l_flags ?c_l_flags ?k_l_flags ?a_l_bases ?l_l_bases ?c_l_bases ?k_l_bases ?a_l_thing ?l_l_thing ?c_l_thing ?k_l_thing ?a_l_right ?l_l_right ?c_l_right ?k_l_right ?a_law ?l_law ?c_law ?k_law ?v_MOST_THINGS ?v_MOST_PEOPLE ?v_MOST_LOOKS ?v_TABLE_THINGS ?z_len ?z_isinstance ?z_all ?z_enumerate ?z_abs ?z_int ?z_divmod ?z_range ?z_repr ?z_max ?z_min ?z_ValueError ?z_LookupError ?z_ArithmeticError
    (case eg_WrongValue => k_is)
    (case eg_InvalidText => k_is)
    (case eg_InvalidMarks => k_is)
    (case eg_InvalidIndex => k_is)
    (case eg_InvalidWord => k_is)
    (case eg_NotARanking => k_is)
    (case eg_NotAHouse => k_is)
    (case eg_NotALook => k_is)
    (case eg_NotLooks => k_is)
    (case eg_OtherThings => k_is)
    (case eg_InvalidRow => k_is)
    (case eg_InvalidMenu => k_is)
    (case eg_InvalidThings => k_is)
    (case eg_InvalidTaken => k_is)
    (case eg_InvalidRankings => k_is)
    (case eg_InvalidLooks => k_is)
    (case eg_InvalidTable => k_is)
    (case eg_WrongName => k_is)
    (case eg_UnknownThing => k_is)
    (case eg_NoAnswer => k_is)
    (case eg_TooMany => k_is)
    (case eg_NoHouse => k_is)
    (case eg_NoTable => k_is)
    (case eg_Clash => k_is)
    (case eg_Broken => k_is)
    (case eg_NothingToUndo => k_is)
    (case xl_InvalidText => first | k_is | rfl)
    (case xr_InvalidText => first | k_is | rfl)
    (case xs_InvalidText => first | k_is | rfl)
    (case xx_InvalidText => first | k_is | rfl)
    (case xt_InvalidText => first | k_is | rfl)
    (case xk_InvalidText => first | k_is | rfl)
    (case xn_InvalidText => first | k_is | rfl)
    (case xga_InvalidText => first | k_is | rfl)
    (case xgg_InvalidText => first | k_is | rfl)
    (case xhd_InvalidText => first | k_is | rfl)
    (case xcl_InvalidText => first | k_is | rfl)
    (case xca_InvalidText => first | k_is | rfl)
    (case xcb_InvalidText => first | k_is | rfl)
    (case xcc_InvalidText => first | k_is | rfl)
    (case xob_InvalidText => first | k_is | rfl)
    (case xl_InvalidMarks => first | k_is | rfl)
    (case xr_InvalidMarks => first | k_is | rfl)
    (case xs_InvalidMarks => first | k_is | rfl)
    (case xx_InvalidMarks => first | k_is | rfl)
    (case xt_InvalidMarks => first | k_is | rfl)
    (case xk_InvalidMarks => first | k_is | rfl)
    (case xn_InvalidMarks => first | k_is | rfl)
    (case xga_InvalidMarks => first | k_is | rfl)
    (case xgg_InvalidMarks => first | k_is | rfl)
    (case xhd_InvalidMarks => first | k_is | rfl)
    (case xcl_InvalidMarks => first | k_is | rfl)
    (case xca_InvalidMarks => first | k_is | rfl)
    (case xcb_InvalidMarks => first | k_is | rfl)
    (case xcc_InvalidMarks => first | k_is | rfl)
    (case xob_InvalidMarks => first | k_is | rfl)
    (case xl_InvalidIndex => first | k_is | rfl)
    (case xr_InvalidIndex => first | k_is | rfl)
    (case xs_InvalidIndex => first | k_is | rfl)
    (case xx_InvalidIndex => first | k_is | rfl)
    (case xt_InvalidIndex => first | k_is | rfl)
    (case xk_InvalidIndex => first | k_is | rfl)
    (case xn_InvalidIndex => first | k_is | rfl)
    (case xga_InvalidIndex => first | k_is | rfl)
    (case xgg_InvalidIndex => first | k_is | rfl)
    (case xhd_InvalidIndex => first | k_is | rfl)
    (case xcl_InvalidIndex => first | k_is | rfl)
    (case xca_InvalidIndex => first | k_is | rfl)
    (case xcb_InvalidIndex => first | k_is | rfl)
    (case xcc_InvalidIndex => first | k_is | rfl)
    (case xob_InvalidIndex => first | k_is | rfl)
    (case xl_InvalidWord => first | k_is | rfl)
    (case xr_InvalidWord => first | k_is | rfl)
    (case xs_InvalidWord => first | k_is | rfl)
    (case xx_InvalidWord => first | k_is | rfl)
    (case xt_InvalidWord => first | k_is | rfl)
    (case xk_InvalidWord => first | k_is | rfl)
    (case xn_InvalidWord => first | k_is | rfl)
    (case xga_InvalidWord => first | k_is | rfl)
    (case xgg_InvalidWord => first | k_is | rfl)
    (case xhd_InvalidWord => first | k_is | rfl)
    (case xcl_InvalidWord => first | k_is | rfl)
    (case xca_InvalidWord => first | k_is | rfl)
    (case xcb_InvalidWord => first | k_is | rfl)
    (case xcc_InvalidWord => first | k_is | rfl)
    (case xob_InvalidWord => first | k_is | rfl)
    (case xl_NotARanking => first | k_is | rfl)
    (case xr_NotARanking => first | k_is | rfl)
    (case xs_NotARanking => first | k_is | rfl)
    (case xx_NotARanking => first | k_is | rfl)
    (case xt_NotARanking => first | k_is | rfl)
    (case xk_NotARanking => first | k_is | rfl)
    (case xn_NotARanking => first | k_is | rfl)
    (case xga_NotARanking => first | k_is | rfl)
    (case xgg_NotARanking => first | k_is | rfl)
    (case xhd_NotARanking => first | k_is | rfl)
    (case xcl_NotARanking => first | k_is | rfl)
    (case xca_NotARanking => first | k_is | rfl)
    (case xcb_NotARanking => first | k_is | rfl)
    (case xcc_NotARanking => first | k_is | rfl)
    (case xob_NotARanking => first | k_is | rfl)
    (case xl_NotAHouse => first | k_is | rfl)
    (case xr_NotAHouse => first | k_is | rfl)
    (case xs_NotAHouse => first | k_is | rfl)
    (case xx_NotAHouse => first | k_is | rfl)
    (case xt_NotAHouse => first | k_is | rfl)
    (case xk_NotAHouse => first | k_is | rfl)
    (case xn_NotAHouse => first | k_is | rfl)
    (case xga_NotAHouse => first | k_is | rfl)
    (case xgg_NotAHouse => first | k_is | rfl)
    (case xhd_NotAHouse => first | k_is | rfl)
    (case xcl_NotAHouse => first | k_is | rfl)
    (case xca_NotAHouse => first | k_is | rfl)
    (case xcb_NotAHouse => first | k_is | rfl)
    (case xcc_NotAHouse => first | k_is | rfl)
    (case xob_NotAHouse => first | k_is | rfl)
    (case xl_NotALook => first | k_is | rfl)
    (case xr_NotALook => first | k_is | rfl)
    (case xs_NotALook => first | k_is | rfl)
    (case xx_NotALook => first | k_is | rfl)
    (case xt_NotALook => first | k_is | rfl)
    (case xk_NotALook => first | k_is | rfl)
    (case xn_NotALook => first | k_is | rfl)
    (case xga_NotALook => first | k_is | rfl)
    (case xgg_NotALook => first | k_is | rfl)
    (case xhd_NotALook => first | k_is | rfl)
    (case xcl_NotALook => first | k_is | rfl)
    (case xca_NotALook => first | k_is | rfl)
    (case xcb_NotALook => first | k_is | rfl)
    (case xcc_NotALook => first | k_is | rfl)
    (case xob_NotALook => first | k_is | rfl)
    (case xl_NotLooks => first | k_is | rfl)
    (case xr_NotLooks => first | k_is | rfl)
    (case xs_NotLooks => first | k_is | rfl)
    (case xx_NotLooks => first | k_is | rfl)
    (case xt_NotLooks => first | k_is | rfl)
    (case xk_NotLooks => first | k_is | rfl)
    (case xn_NotLooks => first | k_is | rfl)
    (case xga_NotLooks => first | k_is | rfl)
    (case xgg_NotLooks => first | k_is | rfl)
    (case xhd_NotLooks => first | k_is | rfl)
    (case xcl_NotLooks => first | k_is | rfl)
    (case xca_NotLooks => first | k_is | rfl)
    (case xcb_NotLooks => first | k_is | rfl)
    (case xcc_NotLooks => first | k_is | rfl)
    (case xob_NotLooks => first | k_is | rfl)
    (case xl_OtherThings => first | k_is | rfl)
    (case xr_OtherThings => first | k_is | rfl)
    (case xs_OtherThings => first | k_is | rfl)
    (case xx_OtherThings => first | k_is | rfl)
    (case xt_OtherThings => first | k_is | rfl)
    (case xk_OtherThings => first | k_is | rfl)
    (case xn_OtherThings => first | k_is | rfl)
    (case xga_OtherThings => first | k_is | rfl)
    (case xgg_OtherThings => first | k_is | rfl)
    (case xhd_OtherThings => first | k_is | rfl)
    (case xcl_OtherThings => first | k_is | rfl)
    (case xca_OtherThings => first | k_is | rfl)
    (case xcb_OtherThings => first | k_is | rfl)
    (case xcc_OtherThings => first | k_is | rfl)
    (case xob_OtherThings => first | k_is | rfl)
    (case xl_UnknownThing => first | k_is | rfl)
    (case xr_UnknownThing => first | k_is | rfl)
    (case xs_UnknownThing => first | k_is | rfl)
    (case xx_UnknownThing => first | k_is | rfl)
    (case xt_UnknownThing => first | k_is | rfl)
    (case xk_UnknownThing => first | k_is | rfl)
    (case xn_UnknownThing => first | k_is | rfl)
    (case xga_UnknownThing => first | k_is | rfl)
    (case xgg_UnknownThing => first | k_is | rfl)
    (case xhd_UnknownThing => first | k_is | rfl)
    (case xcl_UnknownThing => first | k_is | rfl)
    (case xca_UnknownThing => first | k_is | rfl)
    (case xcb_UnknownThing => first | k_is | rfl)
    (case xcc_UnknownThing => first | k_is | rfl)
    (case xob_UnknownThing => first | k_is | rfl)
    (case xl_InvalidRow => first | k_is | rfl)
    (case xr_InvalidRow => first | k_is | rfl)
    (case xs_InvalidRow => first | k_is | rfl)
    (case xx_InvalidRow => first | k_is | rfl)
    (case xt_InvalidRow => first | k_is | rfl)
    (case xk_InvalidRow => first | k_is | rfl)
    (case xn_InvalidRow => first | k_is | rfl)
    (case xga_InvalidRow => first | k_is | rfl)
    (case xgg_InvalidRow => first | k_is | rfl)
    (case xhd_InvalidRow => first | k_is | rfl)
    (case xcl_InvalidRow => first | k_is | rfl)
    (case xca_InvalidRow => first | k_is | rfl)
    (case xcb_InvalidRow => first | k_is | rfl)
    (case xcc_InvalidRow => first | k_is | rfl)
    (case xob_InvalidRow => first | k_is | rfl)
    (case xl_InvalidMenu => first | k_is | rfl)
    (case xr_InvalidMenu => first | k_is | rfl)
    (case xs_InvalidMenu => first | k_is | rfl)
    (case xx_InvalidMenu => first | k_is | rfl)
    (case xt_InvalidMenu => first | k_is | rfl)
    (case xk_InvalidMenu => first | k_is | rfl)
    (case xn_InvalidMenu => first | k_is | rfl)
    (case xga_InvalidMenu => first | k_is | rfl)
    (case xgg_InvalidMenu => first | k_is | rfl)
    (case xhd_InvalidMenu => first | k_is | rfl)
    (case xcl_InvalidMenu => first | k_is | rfl)
    (case xca_InvalidMenu => first | k_is | rfl)
    (case xcb_InvalidMenu => first | k_is | rfl)
    (case xcc_InvalidMenu => first | k_is | rfl)
    (case xob_InvalidMenu => first | k_is | rfl)
    (case xl_InvalidThings => first | k_is | rfl)
    (case xr_InvalidThings => first | k_is | rfl)
    (case xs_InvalidThings => first | k_is | rfl)
    (case xx_InvalidThings => first | k_is | rfl)
    (case xt_InvalidThings => first | k_is | rfl)
    (case xk_InvalidThings => first | k_is | rfl)
    (case xn_InvalidThings => first | k_is | rfl)
    (case xga_InvalidThings => first | k_is | rfl)
    (case xgg_InvalidThings => first | k_is | rfl)
    (case xhd_InvalidThings => first | k_is | rfl)
    (case xcl_InvalidThings => first | k_is | rfl)
    (case xca_InvalidThings => first | k_is | rfl)
    (case xcb_InvalidThings => first | k_is | rfl)
    (case xcc_InvalidThings => first | k_is | rfl)
    (case xob_InvalidThings => first | k_is | rfl)
    (case xl_InvalidTaken => first | k_is | rfl)
    (case xr_InvalidTaken => first | k_is | rfl)
    (case xs_InvalidTaken => first | k_is | rfl)
    (case xx_InvalidTaken => first | k_is | rfl)
    (case xt_InvalidTaken => first | k_is | rfl)
    (case xk_InvalidTaken => first | k_is | rfl)
    (case xn_InvalidTaken => first | k_is | rfl)
    (case xga_InvalidTaken => first | k_is | rfl)
    (case xgg_InvalidTaken => first | k_is | rfl)
    (case xhd_InvalidTaken => first | k_is | rfl)
    (case xcl_InvalidTaken => first | k_is | rfl)
    (case xca_InvalidTaken => first | k_is | rfl)
    (case xcb_InvalidTaken => first | k_is | rfl)
    (case xcc_InvalidTaken => first | k_is | rfl)
    (case xob_InvalidTaken => first | k_is | rfl)
    (case xl_InvalidRankings => first | k_is | rfl)
    (case xr_InvalidRankings => first | k_is | rfl)
    (case xs_InvalidRankings => first | k_is | rfl)
    (case xx_InvalidRankings => first | k_is | rfl)
    (case xt_InvalidRankings => first | k_is | rfl)
    (case xk_InvalidRankings => first | k_is | rfl)
    (case xn_InvalidRankings => first | k_is | rfl)
    (case xga_InvalidRankings => first | k_is | rfl)
    (case xgg_InvalidRankings => first | k_is | rfl)
    (case xhd_InvalidRankings => first | k_is | rfl)
    (case xcl_InvalidRankings => first | k_is | rfl)
    (case xca_InvalidRankings => first | k_is | rfl)
    (case xcb_InvalidRankings => first | k_is | rfl)
    (case xcc_InvalidRankings => first | k_is | rfl)
    (case xob_InvalidRankings => first | k_is | rfl)
    (case xl_InvalidLooks => first | k_is | rfl)
    (case xr_InvalidLooks => first | k_is | rfl)
    (case xs_InvalidLooks => first | k_is | rfl)
    (case xx_InvalidLooks => first | k_is | rfl)
    (case xt_InvalidLooks => first | k_is | rfl)
    (case xk_InvalidLooks => first | k_is | rfl)
    (case xn_InvalidLooks => first | k_is | rfl)
    (case xga_InvalidLooks => first | k_is | rfl)
    (case xgg_InvalidLooks => first | k_is | rfl)
    (case xhd_InvalidLooks => first | k_is | rfl)
    (case xcl_InvalidLooks => first | k_is | rfl)
    (case xca_InvalidLooks => first | k_is | rfl)
    (case xcb_InvalidLooks => first | k_is | rfl)
    (case xcc_InvalidLooks => first | k_is | rfl)
    (case xob_InvalidLooks => first | k_is | rfl)
    (case xl_InvalidTable => first | k_is | rfl)
    (case xr_InvalidTable => first | k_is | rfl)
    (case xs_InvalidTable => first | k_is | rfl)
    (case xx_InvalidTable => first | k_is | rfl)
    (case xt_InvalidTable => first | k_is | rfl)
    (case xk_InvalidTable => first | k_is | rfl)
    (case xn_InvalidTable => first | k_is | rfl)
    (case xga_InvalidTable => first | k_is | rfl)
    (case xgg_InvalidTable => first | k_is | rfl)
    (case xhd_InvalidTable => first | k_is | rfl)
    (case xcl_InvalidTable => first | k_is | rfl)
    (case xca_InvalidTable => first | k_is | rfl)
    (case xcb_InvalidTable => first | k_is | rfl)
    (case xcc_InvalidTable => first | k_is | rfl)
    (case xob_InvalidTable => first | k_is | rfl)
    (case xl_Clash => first | k_is | rfl)
    (case xr_Clash => first | k_is | rfl)
    (case xs_Clash => first | k_is | rfl)
    (case xx_Clash => first | k_is | rfl)
    (case xt_Clash => first | k_is | rfl)
    (case xk_Clash => first | k_is | rfl)
    (case xn_Clash => first | k_is | rfl)
    (case xga_Clash => first | k_is | rfl)
    (case xgg_Clash => first | k_is | rfl)
    (case xhd_Clash => first | k_is | rfl)
    (case xcl_Clash => first | k_is | rfl)
    (case xca_Clash => first | k_is | rfl)
    (case xcb_Clash => first | k_is | rfl)
    (case xcc_Clash => first | k_is | rfl)
    (case xob_Clash => first | k_is | rfl)
    (case xl_Broken => first | k_is | rfl)
    (case xr_Broken => first | k_is | rfl)
    (case xs_Broken => first | k_is | rfl)
    (case xx_Broken => first | k_is | rfl)
    (case xt_Broken => first | k_is | rfl)
    (case xk_Broken => first | k_is | rfl)
    (case xn_Broken => first | k_is | rfl)
    (case xga_Broken => first | k_is | rfl)
    (case xgg_Broken => first | k_is | rfl)
    (case xhd_Broken => first | k_is | rfl)
    (case xcl_Broken => first | k_is | rfl)
    (case xca_Broken => first | k_is | rfl)
    (case xcb_Broken => first | k_is | rfl)
    (case xcc_Broken => first | k_is | rfl)
    (case xob_Broken => first | k_is | rfl)
    (case xl_TooMany => first | k_is | rfl)
    (case xr_TooMany => first | k_is | rfl)
    (case xs_TooMany => first | k_is | rfl)
    (case xx_TooMany => first | k_is | rfl)
    (case xt_TooMany => first | k_is | rfl)
    (case xk_TooMany => first | k_is | rfl)
    (case xn_TooMany => first | k_is | rfl)
    (case xga_TooMany => first | k_is | rfl)
    (case xgg_TooMany => first | k_is | rfl)
    (case xhd_TooMany => first | k_is | rfl)
    (case xcl_TooMany => first | k_is | rfl)
    (case xca_TooMany => first | k_is | rfl)
    (case xcb_TooMany => first | k_is | rfl)
    (case xcc_TooMany => first | k_is | rfl)
    (case xob_TooMany => first | k_is | rfl)
    (case xl_NoHouse => first | k_is | rfl)
    (case xr_NoHouse => first | k_is | rfl)
    (case xs_NoHouse => first | k_is | rfl)
    (case xx_NoHouse => first | k_is | rfl)
    (case xt_NoHouse => first | k_is | rfl)
    (case xk_NoHouse => first | k_is | rfl)
    (case xn_NoHouse => first | k_is | rfl)
    (case xga_NoHouse => first | k_is | rfl)
    (case xgg_NoHouse => first | k_is | rfl)
    (case xhd_NoHouse => first | k_is | rfl)
    (case xcl_NoHouse => first | k_is | rfl)
    (case xca_NoHouse => first | k_is | rfl)
    (case xcb_NoHouse => first | k_is | rfl)
    (case xcc_NoHouse => first | k_is | rfl)
    (case xob_NoHouse => first | k_is | rfl)
    (case xl_NoTable => first | k_is | rfl)
    (case xr_NoTable => first | k_is | rfl)
    (case xs_NoTable => first | k_is | rfl)
    (case xx_NoTable => first | k_is | rfl)
    (case xt_NoTable => first | k_is | rfl)
    (case xk_NoTable => first | k_is | rfl)
    (case xn_NoTable => first | k_is | rfl)
    (case xn_NoTable_second => first | k_is | rfl)
    (case xga_NoTable => first | k_is | rfl)
    (case xgg_NoTable => first | k_is | rfl)
    (case xhd_NoTable => first | k_is | rfl)
    (case xcl_NoTable => first | k_is | rfl)
    (case xca_NoTable => first | k_is | rfl)
    (case xcb_NoTable => first | k_is | rfl)
    (case xcc_NoTable => first | k_is | rfl)
    (case xob_NoTable => first | k_is | rfl)
    (case xl_NothingToUndo => first | k_is | rfl)
    (case xr_NothingToUndo => first | k_is | rfl)
    (case xs_NothingToUndo => first | k_is | rfl)
    (case xi_NothingToUndo => first | k_is | rfl)
    (case xx_NothingToUndo => first | k_is | rfl)
    (case xt_NothingToUndo => first | k_is | rfl)
    (case xk_NothingToUndo => first | k_is | rfl)
    (case xga_NothingToUndo => first | k_is | rfl)
    (case xgg_NothingToUndo => first | k_is | rfl)
    (case xhd_NothingToUndo => first | k_is | rfl)
    (case xcl_NothingToUndo => first | k_is | rfl)
    (case xca_NothingToUndo => first | k_is | rfl)
    (case xcb_NothingToUndo => first | k_is | rfl)
    (case xcc_NothingToUndo => first | k_is | rfl)
    (case xob_NothingToUndo => first | k_is | rfl)
    (case kt_InvalidText => first | k_is | rfl)
    (case kt_InvalidMarks => first | k_is | rfl)
    (case kt_InvalidIndex => first | k_is | rfl)
    (case kt_InvalidWord => first | k_is | rfl)
    (case kt_NotARanking => first | k_is | rfl)
    (case kt_NotAHouse => first | k_is | rfl)
    (case kt_NotALook => first | k_is | rfl)
    (case kt_NotLooks => first | k_is | rfl)
    (case kt_OtherThings => first | k_is | rfl)
    (case kt_UnknownThing => first | k_is | rfl)
    (case kt_InvalidRow => first | k_is | rfl)
    (case kt_InvalidMenu => first | k_is | rfl)
    (case kt_InvalidThings => first | k_is | rfl)
    (case kt_InvalidTaken => first | k_is | rfl)
    (case kt_InvalidRankings => first | k_is | rfl)
    (case kt_InvalidLooks => first | k_is | rfl)
    (case kt_InvalidTable => first | k_is | rfl)
    (case kt_Clash => first | k_is | rfl)
    (case kt_Broken => first | k_is | rfl)
    (case kt_TooMany => first | k_is | rfl)
    (case kt_NoHouse => first | k_is | rfl)
    (case kt_NoTable => first | k_is | rfl)
    (case kt_NothingToUndo => first | k_is | rfl)
    (case a_InvalidTextD_initD => k_is)
    (case ti_InvalidTextD_initD => k_is)
    (case l_InvalidTextD_initD => k_is)
    (case c_InvalidTextD_initD => k_is)
    (case k_InvalidTextD_initD => k_is)
    (case a_InvalidMarksD_initD => k_is)
    (case ti_InvalidMarksD_initD => k_is)
    (case l_InvalidMarksD_initD => k_is)
    (case c_InvalidMarksD_initD => k_is)
    (case k_InvalidMarksD_initD => k_is)
    (case a_InvalidIndexD_initD => k_is)
    (case ti_InvalidIndexD_initD => k_is)
    (case l_InvalidIndexD_initD => k_is)
    (case c_InvalidIndexD_initD => k_is)
    (case k_InvalidIndexD_initD => k_is)
    (case a_InvalidWordD_initD => k_is)
    (case ti_InvalidWordD_initD => k_is)
    (case l_InvalidWordD_initD => k_is)
    (case c_InvalidWordD_initD => k_is)
    (case k_InvalidWordD_initD => k_is)
    (case a_NotARankingD_initD => k_is)
    (case ti_NotARankingD_initD => k_is)
    (case l_NotARankingD_initD => k_is)
    (case c_NotARankingD_initD => k_is)
    (case k_NotARankingD_initD => k_is)
    (case a_NotAHouseD_initD => k_is)
    (case ti_NotAHouseD_initD => k_is)
    (case l_NotAHouseD_initD => k_is)
    (case c_NotAHouseD_initD => k_is)
    (case k_NotAHouseD_initD => k_is)
    (case a_NotALookD_initD => k_is)
    (case ti_NotALookD_initD => k_is)
    (case l_NotALookD_initD => k_is)
    (case c_NotALookD_initD => k_is)
    (case k_NotALookD_initD => k_is)
    (case a_NotLooksD_initD => k_is)
    (case ti_NotLooksD_initD => k_is)
    (case l_NotLooksD_initD => k_is)
    (case c_NotLooksD_initD => k_is)
    (case k_NotLooksD_initD => k_is)
    (case a_OtherThingsD_initD => k_is)
    (case ti_OtherThingsD_initD => k_is)
    (case l_OtherThingsD_initD => k_is)
    (case c_OtherThingsD_initD => k_is)
    (case k_OtherThingsD_initD => k_is)
    (case a_UnknownThingD_initD => k_is)
    (case ti_UnknownThingD_initD => k_is)
    (case l_UnknownThingD_initD => k_is)
    (case c_UnknownThingD_initD => k_is)
    (case k_UnknownThingD_initD => k_is)
    (case a_InvalidRowD_initD => k_is)
    (case ti_InvalidRowD_initD => k_is)
    (case l_InvalidRowD_initD => k_is)
    (case c_InvalidRowD_initD => k_is)
    (case k_InvalidRowD_initD => k_is)
    (case a_InvalidMenuD_initD => k_is)
    (case ti_InvalidMenuD_initD => k_is)
    (case l_InvalidMenuD_initD => k_is)
    (case c_InvalidMenuD_initD => k_is)
    (case k_InvalidMenuD_initD => k_is)
    (case a_InvalidThingsD_initD => k_is)
    (case ti_InvalidThingsD_initD => k_is)
    (case l_InvalidThingsD_initD => k_is)
    (case c_InvalidThingsD_initD => k_is)
    (case k_InvalidThingsD_initD => k_is)
    (case a_InvalidTakenD_initD => k_is)
    (case ti_InvalidTakenD_initD => k_is)
    (case l_InvalidTakenD_initD => k_is)
    (case c_InvalidTakenD_initD => k_is)
    (case k_InvalidTakenD_initD => k_is)
    (case a_InvalidRankingsD_initD => k_is)
    (case ti_InvalidRankingsD_initD => k_is)
    (case l_InvalidRankingsD_initD => k_is)
    (case c_InvalidRankingsD_initD => k_is)
    (case k_InvalidRankingsD_initD => k_is)
    (case a_InvalidLooksD_initD => k_is)
    (case ti_InvalidLooksD_initD => k_is)
    (case l_InvalidLooksD_initD => k_is)
    (case c_InvalidLooksD_initD => k_is)
    (case k_InvalidLooksD_initD => k_is)
    (case a_InvalidTableD_initD => k_is)
    (case ti_InvalidTableD_initD => k_is)
    (case l_InvalidTableD_initD => k_is)
    (case c_InvalidTableD_initD => k_is)
    (case k_InvalidTableD_initD => k_is)
    (case a_ClashD_initD => k_is)
    (case ti_ClashD_initD => k_is)
    (case l_ClashD_initD => k_is)
    (case c_ClashD_initD => k_is)
    (case k_ClashD_initD => k_is)
    (case a_BrokenD_initD => k_is)
    (case ti_BrokenD_initD => k_is)
    (case l_BrokenD_initD => k_is)
    (case c_BrokenD_initD => k_is)
    (case k_BrokenD_initD => k_is)
    (case a_TooManyD_initD => k_is)
    (case ti_TooManyD_initD => k_is)
    (case l_TooManyD_initD => k_is)
    (case c_TooManyD_initD => k_is)
    (case k_TooManyD_initD => k_is)
    (case a_NoHouseD_initD => k_is)
    (case ti_NoHouseD_initD => k_is)
    (case l_NoHouseD_initD => k_is)
    (case c_NoHouseD_initD => k_is)
    (case k_NoHouseD_initD => k_is)
    (case a_NoTableD_initD => k_is)
    (case ti_NoTableD_initD => k_is)
    (case l_NoTableD_initD => k_is)
    (case c_NoTableD_initD => k_is)
    (case k_NoTableD_initD => k_is)
    (case a_l_purse => k_is)
    (case l_l_purse => k_is)
    (case c_l_purse => k_is)
    (case k_l_purse => k_is)
    (case a_l_draw => k_is)
    (case l_l_draw => k_is)
    (case c_l_draw => k_is)
    (case k_l_draw => k_is)
    (case a_l_given => k_is)
    (case l_l_given => k_is)
    (case c_l_given => k_is)
    (case k_l_given => k_is)
    (case a_l_index => k_is)
    (case l_l_index => k_is)
    (case c_l_index => k_is)
    (case k_l_index => k_is)
    (case a_l_flags => k_is)
    (case l_l_flags => k_is)
    (case c_l_flags => k_is)
    (case k_l_flags => k_is)
    (case a_l_bases => k_is)
    (case l_l_bases => k_is)
    (case c_l_bases => k_is)
    (case k_l_bases => k_is)
    (case a_l_thing => k_is)
    (case l_l_thing => k_is)
    (case c_l_thing => k_is)
    (case k_l_thing => k_is)
    (case a_l_right => k_is)
    (case l_l_right => k_is)
    (case c_l_right => k_is)
    (case k_l_right => k_is)
    (case a_law => k_is)
    (case l_law => k_is)
    (case c_law => k_is)
    (case k_law => k_is)
    (case v_MOST_THINGS => k_is)
    (case v_MOST_PEOPLE => k_is)
    (case v_MOST_LOOKS => k_is)
    (case v_TABLE_THINGS => k_is)
    (case z_len => k_is)
    (case z_isinstance => k_is)
    (case z_all => k_is)
    (case z_enumerate => k_is)
    (case z_abs => k_is)
    (case z_int => k_is)
    (case z_divmod => k_is)
    (case z_range => k_is)
    (case z_repr => k_is)
    (case z_max => k_is)
    (case z_min => k_is)
    (case z_ValueError => k_is)
    (case z_LookupError => k_is)
    (case z_ArithmeticError => k_is)
