import PyProof.Rows.All
import Wide.All
import OpenK.AllK
import Wide.FinOn
import HandS.ForMost
import HandS.IsInst
import HandS.Property
import HandS.TupAny
import HandS.Strs
import HandS.Conv
import HandS.Defaults
import KE.GoesEnum
import HandS.Walk
import PyProof.ReprLen
import PyProof.StrLawsRepr
import PyProof.FitsInt
import KE.KRevSl
import HandS.OwnEq
import HandS.More
import KE.KOpsOwn
import KE.KCallOwn
import PyProof.InstNe
import OpenK.KMeth
import OpenK.KOps
import KE.KFmtOwn
import HandS.FStr
import HandS.ClsMeth
import HandS.MakeKwOnly
import HandS.RaiseMore
import HandS.Exc
import KE.KTryMore
import HandS.ExcInit
import HandS.ExcField
import HandS.ExcIs
import HandS.Lambda
import HandS.HotCalls
import KE.KExcIs
import HandS.Dict
import KE.DataFind
import HandS.ReplaceLit
import HandS.Style
import HandS.EndTab
import KE.KNestM
import HandS.WordsExc
import HandS.Star
import HandS.ListEq
import KE.KEqSeq
import PySem.Challenge.RW_menuhouses_k03_rankings_refused
set_option Elab.async false
set_option linter.all false
set_option maxRecDepth 100000
set_option maxHeartbeats 4000000
/-! Own rules beside the layer: promises that know that no repr is under way (FnG), repr of data, sorted of a tuple of texts, enumerate of a tuple, o.m(k = v). -/
namespace MH
open PySem PySem.Spec PyProof.Rows L2

/-! ### promises of defs that are called while no repr is under way -/
def FnG (P : Program) (w : World) (K : PySem.W.Frag) (mg : Str → Option Value) (base : Heap) (k : Nat) (f : Addr) (sp : Sp) : Prop :=
  ∀ (A : Around) (fr : List Env) (st : Shared) (H : Hp) (us : List Value) (vs : List V) (Q : VK), A.guards = some [] → Room k A → Env0 P w K mg base A fr st H → Vals vs us →
    sp vs H Q E0 → codeAny (model P w) A (.call (.ref f) ⟨us, []⟩) (CR CX0 fr P w H st Q E0) st

theorem guards_deeper {A : Around} {env : Env} (h : A.guards = some []) : (A.deeper env).guards = some [] := h

section
variable {P : Program} {w : World} {K : PySem.W.Frag} {mg : Str → Option Value} {base : Heap} {k : Nat} {f : Addr} {sp : Sp}
theorem FnG.mono {j : Nat} (F : FnG P w K mg base j f sp) (h : j ≤ k) : FnG P w K mg base k f sp := fun A fr st H us vs Q hg hr => F A fr st H us vs Q hg (hr.mono h)

theorem fg_of {name qual : Str} {pms : Arguments} {body : List Stmt} {sc : Scope} {dV kV doc pm cdv ct oc : Value} {an od : Option Addr} {osl : Array (Option Value)} {N ps : List Str}
    (lk : K.lookup f = some ⟨oc, od, .func (PySem.W.fnOf name qual pms body sc dV kV doc pm an cdv ct), osl⟩) (hc : PySem.W.codeIn K cdv qual = true) (S : FnScope N ps sc)
    (hB : Binds K (PySem.W.fnOf name qual pms body sc dV kV doc pm an cdv ct) ps []) (hlen : ∀ vs H Q E, sp vs H Q E → vs.length = ps.length)
    (hbd : ∀ (A : Around) (fr : List Env) (st : Shared) (H : Hp) (vs : List V) (Q : VK), A.guards = some [] → Room k (A.deeper (envOfC qual sc st.heap.objs.size f cdv)) → sp vs H Q E0 →
      ∃ t, PSs (cxOf CX0 P w K mg base N qual sc f cdv A fr st H E0).nox body t ∧ t { nx := fun _ H' => Q .non H', rt := Q } (start N vs) H) :
    FnG P w K mg base (k + 1) f sp := by
  intro A fr st H us vs Q hg hr e0 r hs
  have hl := hlen _ _ _ _ hs
  have hul : (us ++ []).length = ps.length := by
    rw [List.append_nil, ← r.length, hl]
  have KX : K.In st.heap := e0.mod.kin.keeps fun b o e => (e0.bs b o e).1
  have nl : st.heap.NoLimit := e0.mod.nolimit.keeps fun b o e => (e0.bs b o e).1
  have hk : ∀ y ∈ ps.zip us, sc.names.lookup y.1 = some .local ∨ (sc.names.lookup y.1 = some .cell ∧ ((cellsFrom (st.heap.objs.size + 1) sc.names []).lookup y.1).isSome = true) := by
    intro y hy
    rcases S.par y.1 (List.of_mem_zip hy).1 with q | q
    · exact .inl q
    · exact .inr ⟨q, PySem.W.cellsFrom_some _ _ _ (.inl q)⟩
  have hb2 := hB st us KX hul
  rw [List.append_nil] at hb2
  refine codeAny_call_function hr.depth (KX _ _ lk) rfl S.co S.gen rfl (PySem.W.codeRec_of KX hc) (hb2 _ _ _ _ ?_)
  refine wpAny_newFunctionEnv_cells S.kind hk fun env he s1 x => ?_
  subst he
  refine ⟨nl.keeps x.toInCall.keep, codeAny_func ?_⟩
  obtain ⟨t, ht, hq⟩ := hbd A fr st H vs Q hg (hr.deeper _) hs
  have J : Inv (cxOf CX0 P w K mg base N qual sc f cdv A fr st H E0) [] (start N vs) H s1 := inv_start S hr.hd e0 hl r x
  refine wpAny_mono (ht.nox.run [] s1 (start N vs) H _ J hq) (fun fl s' hz => ?_) fun e s' hz => hz
  cases fl with
  | ret u =>
    obtain ⟨v, σ', H', J', rv, q⟩ := hz
    exact ⟨v, H', J'.os, J'.bare, J'.base, J'.hok, rv, q⟩
  | next =>
    obtain ⟨σ', H', J', q⟩ := hz
    exact ⟨.non, H', J'.os, J'.bare, J'.base, J'.hok, rfl, q⟩
  | brk => exact (hz.choose_spec.choose_spec.2 : False).elim
  | cont => exact (hz.choose_spec.choose_spec.2 : False).elim

/-- the def's rule, by its text -/
theorem fun_g {x qual : Str} {st : Stmt} {fd : FuncData} {N ps : List Str} (F : Fun K x qual st f fd) (S : FnScope N ps (defScope st)) (hB : Binds K fd ps []) (hlen : ∀ vs H Q E, sp vs H Q E → vs.length = ps.length)
    (hbd : ∀ (cdv : Value) (A : Around) (fr : List Env) (s : Shared) (H : Hp) (vs : List V) (Q : VK), A.guards = some [] → Room k (A.deeper (envOfC qual (defScope st) s.heap.objs.size f cdv)) → sp vs H Q E0 →
      ∃ t, PSs (cxOf CX0 P w K mg base N qual (defScope st) f cdv A fr s H E0).nox (defBody st) t ∧ t { nx := fun _ H' => Q .non H', rt := Q } (start N vs) H) :
    FnG P w K mg base (k + 1) f sp := by
  obtain ⟨oc, od, kV, doc, pm, an, cdv, ct, osl, rfl, lk, hc⟩ := F.ex
  exact fg_of lk hc S hB hlen fun A fr s H vs Q hg hr hs => hbd cdv A fr s H vs Q hg hr hs
end

/-- a promise that holds anyway holds while no repr is under way -/
theorem FnOk.toG {P : Program} {w : World} {K : PySem.W.Frag} {mg : Str → Option Value} {base : Heap} {k : Nat} {f : Addr} {fd : FuncData} {ps : List Str} {sp : Sp} (F : FnOk P w K mg base CX0 k f fd ps sp) (hB : Binds K fd ps []) :
    FnG P w K mg base k f sp := fun A fr st H us vs Q _ hr e0 r hs => by
  have KX : K.In st.heap := e0.mod.kin.keeps fun b o e => (e0.bs b o e).1
  have hl : (us ++ []).length = ps.length := by rw [List.append_nil, ← r.length, F.len _ _ _ _ hs]
  have hb2 := hB st us KX hl
  rw [List.append_nil] at hb2
  exact F.run A fr st H ⟨us, []⟩ us vs Q E0 hr e0 hb2 r hs

section
variable {X : Cx} {k : Nat} {f : Addr} {sp : Sp} {x : Str} {p pos : Pos} {e : Expr} {es : List Expr} {t : TA}
/-- f(e, ..) -/
theorem pe_callg (F : FnG X.prog X.w X.K X.mg X.base k f sp) (hg : X.A.guards = some []) (hr : Room k X.A) (gl : Gl X x) (hm : X.mg x = some (.ref f)) (hk : PySem.W.keepIn X.K (.ref f) = true)
    (ha : PA X (e :: es) t) (hdb : (x == ("__debug__" : Str)) = false := by decide) (he : starEach (e :: es) X.env = (false, eval e X.env) :: starEach es X.env := by rfl) (hpl : (backTo pos (starEach es X.env)).any (·.1) = false := by rfl) :
    PE X (.Call (.Name x p) (e :: es) [] pos) (tCall sp [] E0 t) := by
  refine ⟨fun pins s σ H Q I h => ?_⟩
  refine wpAny_Call_Name_kw (ld_glob I gl hm ?_ hdb)
  refine PySem.W.callWith_K (h₀ := X.base) I.ok.mod.kin hk (thn (ha.run pos pins s σ H _ I h) fun us s1 ⟨vs, H1, I1, r, q⟩ => ⟨I1.kIn, ?_⟩) he hpl
  have q1 : sp vs H1 Q E0 := by
    have z : sp (vs ++ []) H1 Q E0 := q
    rw [List.append_nil] at z
    exact z
  refine wpAny_call (codeAny_mono (F X.A X.stack s1 H1 us vs Q hg hr I1.env0 r q1) fun r s' hq => ?_)
  match r, hq with
  | .ok (.ret u), hq => exact I1.after hq
  | .ok .next, hq => exact False.elim hq
  | .ok .brk, hq => exact False.elim hq
  | .ok .cont, hq => exact False.elim hq
  | .error _, hq => exact False.elim hq
end

/-! ### repr of data -/
def rRepr (K : PySem.W.Frag) : List V → Hp → VK → Prop := fun xs H Q => ∃ (a : Addr) (d : PyData), xs = [.ref a] ∧ Dp K H (.ref a) d ∧ d.showable = true ∧ d.hasDict = false ∧ d.depth ≤ 60 ∧ d.shown.length ≤ sizeLine ∧ Q (.str d.shown) H
section
variable {X : Cx}
theorem call_reprD (hg : X.A.guards = some []) (hu : X.A.units + 64 < cLine) : CallR X (.builtin "repr") (rRepr X.K) := by
  intro pins s σ H xs us Q I r h
  obtain ⟨a, d, rfl, hd, h1, h2, h3, h4, q⟩ := h
  obtain ⟨u, rfl, ru⟩ := vals1 r
  obtain ⟨as, rd⟩ := Dp.reads I d _ _ hd ru
  obtain rfl : u = Value.ref a := ru
  exact repr_of_reads' rd h1 (PyData.noDict_hsm h2) hg (by omega) (fun _ _ e => e) (fun h' u tk hk => ⟨.str d.shown, H, I.kept hk, ⟨_, rfl⟩, q⟩) h4
end

/-! ### sorted of a tuple of texts -/
section
variable {prog : Program} {w : World} {A : Around} {E : Value → Shared → Prop} {s : Shared}
theorem collect_tup {t : Addr} {us : List Value} {Q : List Value → Shared → Prop} (ht : s.heap.IsTuple t us.toArray) (hz : us.length ≤ sizeLine)
    (k : Q us { s with heap := (s.heap.push (seqObj "list" #[] 0)).update s.heap.objs.size (Obj.mapSeq (· ++ us.toArray)) }) :
    wpAny (model prog w) A (collect (.ref t)) Q E s := by
  obtain ⟨o, ho, hc, n, hd⟩ := id ht
  have new0 : ∀ x : Addr, x = s.heap.objs.size → (s.heap.push (seqObj "list" #[] 0)).get? x = some (seqObj "list" #[] 0) := fun x e => by
    rw [e]
    exact Heap.get?_push_size _ rfl
  have old : (s.heap.push (seqObj "list" #[] 0)).get? t = some o := Heap.get?_push_of_some _ ho
  unfold collect
  refine wpAny_bind (wpAny_runValue (codeAny_builtin entry_proto_collect' ?_))
  show wpAny _ _ (newList [] >>= fun l => again (.builtin "list.__iadd__" ⟨[l, .ref t], []⟩)) _ _ s
  refine wpAny_bind (wpAny_newList (wpAny_pure ⟨Code.quiet_builtin _ (by decide +kernel), codeAny_builtin entry_list_iadd' ?_⟩))
  refine (show wpAny _ _ (Builtin.List.listExtendWith (.ref s.heap.objs.size) (.ref t) (.ref s.heap.objs.size)) _ _ { s with heap := s.heap.push (seqObj "list" #[] 0) } from ?_)
  unfold Builtin.List.listExtendWith
  refine wpAny_bind (wpAny_typeOf (T := "tuple") ⟨o, old, hc⟩ ?_)
  have b2 : (Value.type "tuple" == Value.type "tuple") = true := by rfl
  rw [if_pos (by rw [b2]; simp)]
  refine wpAny_bind (listItems_at old hd ?_)
  refine wpAny_bind (listItems_at (xs := #[]) (n := 0) (new0 _ rfl) rfl ?_)
  rw [if_neg (by simp)]
  have hz2 : (#[] ++ us.toArray).size ≤ sizeLine + 1 := by
    simp only [Array.size_append, List.size_toArray, List.length_nil]
    omega
  refine wpAny_bind (listUpdate_at (xs := #[]) (n := 0) (new0 _ rfl) rfl ?_ (Nat.zero_le _) hz2)
  refine wpAny_pure ?_
  refine (show wpAny (model prog w) A (load s.heap.objs.size >>= fun o => match o.data with
      | .seq xs _ => pure xs.toList
      | _ => unsupported "internal:collect") Q E { s with heap := (s.heap.push (seqObj "list" #[] 0)).update s.heap.objs.size (Obj.mapSeq (· ++ us.toArray)) } from ?_)
  refine wpAny_bind (wpAny_load (get?_update_seq (new0 _ rfl) _) ?_)
  have e : ((#[] : Array Value) ++ us.toArray).toList = us := by simp
  refine (show wpAny _ _ (pure ((#[] : Array Value) ++ us.toArray).toList) Q E _ from ?_)
  rw [e]
  exact wpAny_pure k

theorem sorted_tup {t : Addr} {us : List Value} {ss : List Str} {Q : Value → Shared → Prop} (ht : s.heap.IsTuple t us.toArray) (hS : StrsAre us ss) (h64 : us.length < 64)
    (k : ∀ (out : Array Value) (ys : List Str), StrsAre out.toList ys → ys.Perm ss → sortedS ys = true → Q (.ref (s.heap.objs.size + 1)) { s with heap := sortedAll s.heap us out }) :
    wpAny (model prog w) A (call (.builtin "sorted") [.ref t]) Q E s := by
  refine Calls.call_function_entry kind_sorted plain_sorted entry_sorted (args_sorted1 _) ?_
  unfold Builtin.«sorted»
  refine wpAny_bind (m := checkCount "sorted" 1 1 _) (wpAny_pure ?_)
  refine wpAny_bind (collect_tup ht (small64 h64) (wpAny_bind (wpAny_newList ?_)))
  have size1 : ((s.heap.push (seqObj "list" #[] 0)).update s.heap.objs.size (Obj.mapSeq (· ++ us.toArray))).objs.size = s.heap.objs.size + 1 := by
    rw [Heap.size_update, size_push']
  have at1 : (((s.heap.push (seqObj "list" #[] 0)).update s.heap.objs.size (Obj.mapSeq (· ++ us.toArray))).push (seqObj "list" us.toArray 0)).get? (s.heap.objs.size + 1) = some (seqObj "list" us.toArray 0) := by
    rw [← size1]
    exact Heap.get?_push_size _ rfl
  refine (show wpAny _ _ _ _ _ { s with heap := ((s.heap.push (seqObj "list" #[] 0)).update s.heap.objs.size (Obj.mapSeq (· ++ us.toArray))).push (seqObj "list" us.toArray 0) } from ?_)
  rw [size1]
  refine wpAny_bind (wpAny_holding (wpAny_call_entry slot_list_sort ⟨_, at1, rfl⟩ entry_list_sort
    (list_sort_treeK strKind_oneLt at1 hS.keysOf (fun v1 v2 rest e => keyKind_strs (by rw [← e]; exact hS)) h64 fun st hp hs => ⟨_, rfl, ?_⟩) (args_list_sort _)))
  obtain ⟨ys, h1, h2, h3⟩ := sorted_out_str hS hp hs
  exact wpAny_pure ⟨_, rfl, k _ ys h1 h2 h3⟩
end
def rSortedU (K : PySem.W.Frag) : List V → Hp → VK → Prop := fun vs H Q => ∃ (a : Addr) (xs : List Str), vs = [V.ref a] ∧ SqT K H a (xs.map V.str) ∧ xs.length < 64 ∧ ∀ (ys : List Str) (p : Addr), ys.Perm xs → sortedS ys = true → H p = none → Q (.ref p) (upd H p (.lst (ys.map V.str)))
section
variable {X : Cx}
theorem cr_sortedU : CallR X (.builtin "sorted") (rSortedU X.K) := by
  intro pins s σ H vs us Q I r h
  obtain ⟨a, xs, rfl, hs, h64, q⟩ := h
  obtain ⟨its, rv, ht, _⟩ := I.tuple hs
  rw [Vals.ref1 r]
  have hl0 : xs.length = its.length := by
    have z := rv.length
    rw [List.length_map] at z
    exact z
  refine sorted_tup (s := s) ht rv.strs (hl0 ▸ h64) fun out ys h1 h2 h3 => ?_
  obtain ⟨ep, he⟩ := sortedAll_at s.heap its out
  have hz : (ys.map V.str).length ≤ sizeLine := by
    rw [List.length_map, h2.length_eq]
    exact small64 h64
  refine ⟨.ref _, upd H (s.heap.objs.size + 1) (.lst (ys.map V.str)), ?_, rfl, q ys _ h2 h3 (I.hok.fresh (Nat.le_succ _))⟩
  exact I.laid (t' := s.toks) (fun _ _ => sortedAll_old) (Nat.le_succ _) ⟨hz, out.toList, ep, vals_of_strs h1, he⟩
end

/-! ### enumerate of a tuple -/
theorem enum_tup_new {t : Addr} {items : Array Value} : Meets (Builtin.«enumerate.__new__» ⟨[.type "enumerate", .ref t], []⟩) (fun _ R s => s.heap.IsTuple t items ∧
      R (.ok (.ret (.ref (s.heap.push { cls := .type "tuple_iterator", data := .fields #[.ref t, .int 0 0] }).objs.size)))
        { s with heap := (s.heap.push { cls := .type "tuple_iterator", data := .fields #[.ref t, .int 0 0] }).push { cls := .type "enumerate", data := .fields #[.none, .bool false, .ref s.heap.objs.size, rawInt 0, .none, .none] } }) :=
  .of_wp fun prog w A R s h => by
    obtain ⟨hp, g, d, tk, os⟩ := s
    obtain ⟨hT, k⟩ := h
    have hsub := sub_enumerate
    have it : ∀ {A' : Around} {E Q : Value → Shared → Prop}, Q (.ref hp.objs.size) ⟨hp.push { cls := .type "tuple_iterator", data := .fields #[.ref t, .int 0 0] }, g, d, tk, os⟩ → wpAny (model prog w) A' (pyIter (.ref t)) Q E ⟨hp, g, d, tk, os⟩ :=
      fun q => wpAny_pyIter_tuple (items := items) hT q
    wp_walk using it
    refine wpAny_stack_any fun st => wpAny_pure ?_
    split
    · rename_i c _ _ _ _ _
      cases (c == Value.type "enumerate") <;> (wp_walk using it; exact ⟨_, rfl, k⟩)
    · wp_walk using it
      exact ⟨_, rfl, k⟩
section
variable {prog : Program} {w : World} {A : Around} {E : Value → Shared → Prop} {s : Shared}
theorem call_enum_tup {t : Addr} {items : Array Value} {Q : Value → Shared → Prop} (hT : s.heap.IsTuple t items)
    (k : ∀ h', IsEnum h' (s.heap.objs.size + 1) s.heap.objs.size 0 .none → h'.IsTupleIter s.heap.objs.size t 0 → h'.objs.size = s.heap.objs.size + 2 →
      (∀ b o, s.heap.get? b = some o → h'.get? b = some o) → Q (.ref (s.heap.objs.size + 1)) { s with heap := h' }) :
    wpAny (model prog w) A (call (.type "enumerate") [.ref t]) Q E s := by
  refine callType_new F.called_enumerate (by decide) (F.typeCall_enumerate_1 _) (F.newCall_enumerate_1 _) (fun obj => F.args_object_init_2 obj _) F.entry_enumerate_new enum_tup_new ⟨hT, ?_⟩
  have hz : (s.heap.push { cls := .type "tuple_iterator", data := .fields #[.ref t, .int 0 0] }).objs.size = s.heap.objs.size + 1 := Heap.size_push ..
  refine (show _ ∧ _ from ?_)
  rw [hz]
  have he := Heap.get?_push_size (s.heap.push { cls := .type "tuple_iterator", data := .fields #[.ref t, .int 0 0] }) (o := { cls := .type "enumerate", data := .fields #[.none, .bool false, .ref s.heap.objs.size, rawInt 0, .none, .none] }) rfl
  rw [hz] at he
  refine ⟨⟨_, he, rfl⟩, k _ he ⟨_, Heap.get?_push_of_some _ (Heap.get?_push_size _ rfl), rfl, rfl⟩ ?_ fun b o x => Heap.get?_push_of_some _ (Heap.get?_push_of_some _ x)⟩
  rw [Heap.size_push, hz]
end
theorem wpAny_pyNext_enum_none {prog : Program} {w : World} {A : Around} {E : Value → Shared → Prop} {s : Shared} {e it t : Addr} {i : Nat} {items : Array Value} {old : Value} {Q : Option Value → Shared → Prop} (hh : A.in1.handled = none) (he : IsEnum s.heap e it i old) (hit : s.heap.IsTupleIter it t i) (ht : s.heap.IsTuple t items)
    (hx : items[i]? = none) (k : ∀ h', Heap.ExtBut it s.heap h' → Q none { s with heap := h' }) : wpAny (model prog w) A (pyNext (.ref e)) Q E s := by
  have ty : s.TypeIs (.ref e) "enumerate" := ⟨_, he, rfl⟩
  unfold pyNext
  refine wpAny_bind (wpAny_attempt (wpAny_callSpecial?_slot (name := Str.ofString "__next__") ty F.slot_enumerate_next
    (wpAny_call_entry F.slot_enumerate_next ty F.entry_enumerate_next ?_ (F.args_enumerate_next_1 _))))
  refine (show wpAny _ _ (field (.ref e) 2 >>= _) _ _ _ from ?_)
  refine wpAny_bind (wpAny_field he rfl (x := .ref it) rfl ?_)
  refine wpAny_bind (wpAny_nextOf_tuple_end hh hit ht hx fun h' x eb hx' => ?_)
  obtain ⟨o, ho, hc⟩ := hx'
  refine wpAny_bind (wpAny_isInstance (T := "StopIteration") (b := true) ⟨o, ho, hc⟩ isSubtype_stop ?_)
  exact wpAny_pure (k _ eb)
/-- the tuple at a, each item in a new pair behind its index -/
def IteT (K : PySem.W.Frag) (a : Addr) : It where
  go := fun i H => ∃ xs x, SqT K H a xs ∧ xs[i]? = some x
  yld := fun i H v H' => ∃ T x, v = .ref T ∧ H T = none ∧ H' = upd H T (.tup [.int (i : Nat), x]) ∧ ∀ xs, SqT K H a xs → xs[i]? = some x
  stop := fun i H => ∃ xs, SqT K H a xs ∧ xs.length ≤ i
theorem turn_enumT {P : Program} {w : World} {K : PySem.W.Frag} {elts : List Expr} {kk : Nat} {tpos : Pos} (a e it : Addr) :
    Turn P w K (.Tuple elts kk tpos) (IteT K a) [e, it] e (fun i h => (∃ old, IsEnum h e it ((i : Nat) : Int) old) ∧ h.IsTupleIter it a i ∧ e ≠ it) where
  mem := List.mem_cons_self
  obj := by
    rintro i h ⟨⟨old, he⟩, ⟨o, ho, hc, hd⟩, _⟩ b hb
    have e' : b = e ∨ b = it := by simpa using hb
    rcases e' with rfl | rfl
    · exact ⟨_, he, fun v q => nomatch q⟩
    · refine ⟨o, ho, fun v q => ?_⟩
      rw [hd] at q
      cases q
  keep := fun i h h' st k => ⟨⟨st.1.choose, k e (by simp) _ st.1.choose_spec⟩, st.2.1.at fun o q => k it (by simp) o q, st.2.2⟩
  item := by
    intro X hP hw hK hc i pins s σ H E I hf st hg
    subst hP hw hK
    obtain ⟨⟨old, he⟩, hit, hne⟩ := st
    obtain ⟨xs, x, hq, hx⟩ := hg
    obtain ⟨its, rv, p, hz⟩ := I.tuple hq
    obtain ⟨u, hu, ru⟩ := rv.get hx
    have hel : e < s.heap.objs.size := Heap.lt_size he
    have hil : it < s.heap.objs.size := by
      obtain ⟨_, q, _⟩ := hit
      exact Heap.lt_size q
    obtain ⟨ot, hot, hct, _⟩ := id (show s.heap.IsTuple a its.toArray from p)
    have hae : e ≠ a := fun q => by
      have z : s.heap.get? e = some ot := q ▸ hot
      rw [he] at z
      cases z
      exact absurd (show Value.type "enumerate" = Value.type "tuple" from hct) (by decide)
    have hait : a ≠ it := fun q => by
      obtain ⟨o2, h2, c2, _⟩ := hit
      rw [← q, hot] at h2
      cases h2
      rw [hct] at c2
      exact absurd c2 (by decide)
    have hlt : i < its.toArray.size := by
      have := (List.getElem?_eq_some_iff.mp hu).1
      simpa using this
    have hh : X.A.in1.handled = none := I.ok.hd hc
    refine wpAny_pyNext_enum_itemD (Draws.tuple hh it a hait its.toArray) he ⟨hit, p⟩ hlt hne (by simp [hne, hae]) fun y h' tk hy ho hst hT hsz hk => ?_
    have hyu : y = u := by
      have z : its.toArray[i]? = some y := hy
      rw [List.getElem?_toArray, hu] at z
      exact (Option.some.inj z).symm
    subst hyu
    refine ⟨_, rfl, wpAny_letOwnedTupleGo_enum (s := { s with heap := h', toks := tk + 1 }) ho fun h'' he' sb => ?_⟩
    have hT2 : h''.get? s.heap.objs.size = some { cls := .type "tuple", data := .seq #[.int i tk, y] } := (sb.2 _ (Nat.ne_of_gt hel)).trans hT
    have new : ObjOk X.prog X.w (upd H s.heap.objs.size (.tup [.int (i : Nat), x])) h'' s.heap.objs.size (.tup [.int (i : Nat), x]) :=
      ⟨(by decide : 2 ≤ sizeLine), [.int i tk, y], .cons ⟨_, rfl⟩ (.cons ru .nil), ⟨_, hT2, rfl, _, rfl⟩⟩
    have I1 : Inv X pins σ (upd H s.heap.objs.size (.tup [.int (i : Nat), x])) { s with heap := h'', toks := tk + 1 } := by
      refine I.turnedNew (ch := [e, it]) (fun b ob hb q => ?_) hf (Nat.le_refl _) new
      rw [sb.2 b (fun z => hb (by simp [z]))]
      exact hk b ob (fun z => hb (by simp [z])) (fun z => hb (by simp [z])) q
    refine ⟨.ref s.heap.objs.size, _, I1, rfl, ⟨_, x, rfl, I.hok.fresh (Nat.le_refl _), rfl, fun ys hy => by rw [I.tuple_inj hy hq]; exact hx⟩, ⟨⟨y, ?_⟩, ?_, hne⟩, fun b hb => ?_⟩
    · rw [show ((i + 1 : Nat) : Int) = (i : Int) + 1 from by omega]
      exact he'
    · exact hst.1.at fun o q => (sb.2 it (Ne.symm hne)).trans q
    · have hb' : b < s.heap.objs.size := by
        have e' : b = e ∨ b = it := by simpa using hb
        rcases e' with z | z
        · rw [z]
          exact hel
        · rw [z]
          exact hil
      rw [upd_ne (Nat.ne_of_lt hb')]
      exact (hf b hb).1
  done := by
    intro X hP hw hK hc i pins s σ H E I hf st hg
    subst hP hw hK
    obtain ⟨⟨old, he⟩, hit, hne⟩ := st
    obtain ⟨xs, hq, hx⟩ := hg
    obtain ⟨its, rv, p, hz⟩ := I.tuple hq
    obtain ⟨f0, f1, f2, f3, f4, f5⟩ := hf it (by simp)
    have hh : X.A.in1.handled = none := I.ok.hd hc
    have hl := rv.length
    obtain ⟨ot, hot, hct, _⟩ := id (show s.heap.IsTuple a its.toArray from p)
    have hait : a ≠ it := fun q => by
      obtain ⟨o2, h2, c2, _⟩ := hit
      rw [← q, hot] at h2
      cases h2
      rw [hct] at c2
      exact absurd c2 (by decide)
    refine wpAny_pyNext_enum_none hh he hit p (by simp; omega) fun h' eb => ⟨rfl, I.turned (t' := s.toks) (fun b o hb q => eb b o hb q) f0 f1 f3 f4 f5⟩
  self := fun A i s Q E st h => wpAny_pyIter_enum st.1.choose_spec h
def iEnumT (K : PySem.W.Frag) (ta : TA) : TI := fun σ H R => ta σ H fun vs H1 => ∃ a xs, vs = [.ref a] ∧ SqT K H1 a xs ∧ R (IteT K a) H1
theorem pi_enumT {X : Cx} {e : Expr} {ta : TA} {p pos tpos : Pos} {elts : List Expr} {kk : Nat} (hg : Gl X "enumerate") (hm : X.mg "enumerate" = none) (ha : PA X [e] ta) (hs : starEach [e] X.env = [(false, eval e X.env)] := by rfl) :
    PI X (.Tuple elts kk tpos) (.Call (.Name "enumerate" p) [e] [] pos) (iEnumT X.K ta) := by
  refine ⟨fun pins s σ H R I h => ?_⟩
  refine Call_ (ld_blt I hg hm boot_enumerate (PyProof.Rows.callWith_type1 (thn (ha.run pos pins s σ H _ I h) fun us s1 ⟨vs, H1, I1, r1, a, xs, ex, hq, q⟩ => ?_) hs rfl))
  subst ex
  obtain ⟨u, rfl, ru⟩ := vals1 r1
  obtain rfl : u = Value.ref a := ru
  obtain ⟨its, rv, p', hz⟩ := I1.tuple hq
  refine call_enum_tup (show s1.heap.IsTuple a its.toArray from p') fun h' he hit hsz hk => wpAny_pyIter_enum he ?_
  have I2 : Inv X pins σ H1 { s1 with heap := h' } := I1.kept (t' := s1.toks) hk
  refine ⟨s1.heap.objs.size + 1, [s1.heap.objs.size + 1, s1.heap.objs.size], _, _, H1, rfl, I2, turn_enumT a (s1.heap.objs.size + 1) s1.heap.objs.size, ⟨⟨.none, he⟩, hit, Nat.succ_ne_self _⟩, fun b hb => ?_, q⟩
  have e' : b = s1.heap.objs.size + 1 ∨ b = s1.heap.objs.size := by simpa using hb
  have hle : s1.heap.objs.size ≤ b := by
    rcases e' with z | z
    · rw [z]
      exact Nat.le_succ _
    · rw [z]
      exact Nat.le_refl _
  exact I1.fpOk hle (I1.hok.fresh hle)

/-! ### o.m(k = v, ..) -/
def tMethK (C : Addr) (m : Str) (n : Nat) (sp : Sp) (gV : List V → List V → List V) (E : XK) (ta : TE) (tk : TA) : TE := fun σ H Q => ta σ H fun x H1 => ∃ a dx fs, x = .ref a ∧ H1 a = some (.ins C dx fs) ∧ fs.lookup m = none ∧
  tk σ H1 fun zs H2 => zs.length = n ∧ sp (gV [x] zs) H2 Q E
section
variable {X : Cx} {CX : CXT} {k : Nat} {C f : Addr} {fd : FuncData} {ps ks : List Str} {sp : Sp} {E : XK} {o : Expr} {m : Str} {apos pos : Pos} {kws : List Keyword} {ta : TE} {tk : TA} {g : List Value → List Value → List Value} {gV : List V → List V → List V} {pl : Sem Bool}
theorem pe_methK0 (he : PE X o ta) (c : Cls X.K C) (hm : Meth X.K C m f) (F : FnOk X.prog X.w X.K X.mg X.base CX k f fd ps sp) (hr : Room k X.A) (hb : KBn X.K fd ps 1 ks g gV) (hx : Passes CX X E) (hkw : PK X kws tk)
    (hall : (backToKw pos (keywordEach kws X.env)).all (·.1.isSome) = true := by rfl) (hks : (backToKw pos (keywordEach kws X.env)).filterMap (·.1) = ks := by rfl)
    (hpl : ((backTo pos (starEach [] X.env)).any (·.1) || (backToKw pos (keywordEach kws X.env)).any (·.1.isNone)) = false := by rfl)
    (ht : eval (.Call (.Attribute o m apos) [] kws pos) X.env = (do
      let ov ← eval o X.env
      standAt apos.atName
      let (f, first) ← holding [ov] (getMethod ov m pl)
      callWith pos f first (backTo pos (starEach [] X.env)) (backToKw pos (keywordEach kws X.env))) := by rfl) :
    PE X (.Call (.Attribute o m apos) [] kws pos) (tMethK C m ks.length sp gV E ta tk) := by
  refine ⟨fun pins s σ H Q I h => ?_⟩
  refine PySem.W.methodCall_KW (pl := pl) (thn (he.run pins s σ H _ I h) fun u s1 ⟨x, H1, I1, rx, a, dx, fs, ex, ea, l, q⟩ => ?_) ht
  subst ex
  obtain rfl : u = Value.ref a := rx
  refine getmeth_ok I1 ea c hm l ?_
  refine PySem.W.callWith_KW0 (first := [.ref a]) (h₀ := X.base) I.ok.mod.kin hm.kp hall ?_ hpl
  refine thn (hkw.run pos pins s1 σ H1 _ I1 q) fun ws s2 ⟨zs, H2, I2, rz, hz, q2⟩ => ⟨I2.kIn, ?_⟩
  rw [hks]
  have r1 : Vals [V.ref a] [Value.ref a] := .cons rfl .nil
  have r2 := hb.rel r1 rz
  refine wpAny_call (codeAny_mono (F.run X.A X.stack s2 H2 ⟨[.ref a], ks.zip ws⟩ (g [.ref a] ws) (gV [.ref a] zs) Q E hr I2.env0 (hb.to s2 [.ref a] ws I2.kIn rfl (rz.length.symm.trans hz)) r2 q2) fun r s' hq => ?_)
  match r, hq with
  | .ok (.ret u), hq => exact I2.after hq
  | .ok .next, hq => exact False.elim hq
  | .ok .brk, hq => exact False.elim hq
  | .ok .cont, hq => exact False.elim hq
  | .error e, hq => exact hx pins σ H2 s2 e s' I2 hq
end

/-! ### tuples that are known to the object: their methods -/
def TupO (H : Hp) (a : Addr) (xs : List V) : Prop := ∃ o : Obj, H a = some (.frz o (.tup xs)) ∧ o.dict = none
theorem TupO.sqt {K : PySem.W.Frag} {H : Hp} {a : Addr} {xs : List V} (h : TupO H a xs) : SqT K H a xs := .inl (.inr ⟨_, h.choose_spec.1⟩)
theorem TupO.same {H H' : Hp} {a : Addr} {xs : List V} (h : TupO H a xs) (s : ∀ b o, H b = some o → H' b = some o) : TupO H' a xs := ⟨_, s _ _ h.choose_spec.1, h.choose_spec.2⟩
/-- tuple(list): a new one; tuple(tuple): itself -/
def rTupF (K : PySem.W.Frag) : List V → Hp → VK → Prop := fun xs H Q => ∃ p ys, xs = [.ref p] ∧ ((SqL K H p ys ∧ ∀ (l : Addr) (o : Obj), H l = none → o.dict = none → Q (.ref l) (upd H l (.frz o (.tup ys)))) ∨ (SqT K H p ys ∧ Q (.ref p) H))
def tTupM (r : V → List V → Hp → VK → Prop) (to : TE) (t : TA) : TE := fun σ H Q => to σ H fun x H1 => (∃ a xs, x = .ref a ∧ TupO H1 a xs) ∧ t σ H1 fun vs H2 => r x vs H2 Q
section
variable {X : Cx} {o e : Expr} {es : List Expr} {to : TE} {t : TA} {name : Str} {apos cpos : Pos} {id : String} {r : V → List V → Hp → VK → Prop}
theorem call_tupF : CallR X (.type "tuple") (rTupF X.K) := by
  intro pins s σ H xs us Q I r h
  obtain ⟨p, ys, rfl, h⟩ := h
  obtain ⟨u, rfl, rx⟩ := vals1 r
  obtain rfl : u = Value.ref p := rx
  rcases h with ⟨hq, q⟩ | ⟨hq, q⟩
  · obtain ⟨its, rv, pl, hz⟩ := I.list hq
    have hl := rv.length
    refine call_tuple_list pl.isList (fun h' kp => ?_) (by simp only [List.size_toArray]; omega)
    have I1 : Inv X pins σ H { s with heap := h' } := I.kept (t' := s.toks) kp
    have at1 := Heap.get?_push_size h' (o := { cls := .type "tuple", data := .seq its.toArray }) rfl
    have I2 : Inv X pins σ (upd H h'.objs.size (.frz { cls := .type "tuple", data := .seq its.toArray } (.tup ys))) { s with heap := h'.push { cls := .type "tuple", data := .seq its.toArray } } :=
      I1.laid (t' := s.toks) (fun b o e => Heap.get?_push_of_some _ e) (Nat.le_refl _) ⟨at1, hz, its, rv, IsTup.new _ _⟩
    exact ⟨.ref h'.objs.size, _, I2, rfl, q _ _ (I1.hok.fresh (Nat.le_refl _)) rfl⟩
  · obtain ⟨its, rv, pl, hz⟩ := I.tuple hq
    exact call_tuple_same pl ⟨.ref p, H, I, rfl, q⟩
theorem pe_tupM (slot : Slot "tuple" name id) (hty : typeOf (.builtin id) = pure (.type "method_descriptor")) (hm : MtR X id r) (ho : PE X o to) (ha : PA X (e :: es) t)
    (hbase : attributeBase o name X.env (eval o X.env) = eval o X.env := by rfl)
    (hfew : ((backTo cpos (starEach (e :: es) X.env)).all (fun x => !x.1) && (backToKw cpos (keywordEach [] X.env)).all (fun x => x.1.isSome)
      && decide ((e :: es).length + ([] : List Keyword).length + (if ([] : List Keyword).isEmpty then 0 else 1) < 30)) = true := by rfl)
    (hline : (apos.endLine == cpos.line) = true := by rfl) (hs : starEach (e :: es) X.env = (false, eval e X.env) :: starEach es X.env := by rfl) (hp : (backTo cpos (starEach es X.env)).any (·.1) = false := by rfl) :
    PE X (.Call (.Attribute o name apos) (e :: es) [] cpos) (tTupM r to t) := by
  refine ⟨fun pins s σ H Q I h => ?_⟩
  refine wpAny_Call_method_late hbase hfew hline rfl (thn (ho.run pins s σ H _ I h) fun v s1 ⟨x, H1, I1, r1, ⟨a, xs, ex, ob, ea, ed⟩, q1⟩ => ?_)
  subst ex
  obtain rfl : v = Value.ref a := r1
  obtain ⟨g1, _, _, _, og, hog, hcg, _⟩ := (show ObjOk X.prog X.w H1 s1.heap a (.frz ob (.tup xs)) from I1.hok a _ ea)
  refine ⟨"tuple", id, PySem.F.plainAttrs_tuple, slot, hty, ⟨og, hog, hcg⟩, fun b hb => ?_, ?_⟩
  · cases hb
    exact ⟨ob, g1, ed⟩
  · have hA := ha.run cpos pins s1 σ H1 _ I1 q1
    rw [hs] at hA ⊢
    refine Calls.callWith_builtin (show (false || (backTo cpos (starEach es X.env)).any (·.1)) = false from by rw [hp]; rfl) (Calls.evalArgs_plain ?_)
    exact thn hA fun us s2 ⟨vs, H2, I2, r2, q2⟩ => hm pins s2 σ H2 (.ref a) vs (.ref a) us Q I2 rfl r2 q2
end

/-! ### the end of a law whose def is promised while no repr is under way -/
theorem law_callg {P : Program} {w : World} {K : PySem.W.Frag} {mg mb : Str → Option Value} {k : Nat} {fa a : Addr} {sp : Sp} {st : Shared} {us : List Value} {ns : List Int}
    (KX : K.In st.heap) (hn : st.heap.Ns mainGlobals mg) (hb : st.heap.Ns builtinsNs mb) (hbb : ∀ x : Str, x ≠ "__name__" → mb x = bootBuiltins x) (nl : st.heap.NoLimit) (hgens : st.gens = #[])
    (ha : st.heap.get? a = some { cls := .type "list", data := .seq us.toArray }) (hi : IntsAre us ns) (hz : ns.length ≤ sizeLine) (hr : Room k callerA)
    (F : ∀ base : Heap, K.In base → base.Ns mainGlobals mg → FnG P w K mg base k fa sp)
    (hsp : ∀ H : Hp, SqL K H a (ns.map V.int) → sp [.ref a] H (fun v _ => v = .bl true) E0) :
    codeAny (model P w) callerA (.call (.ref fa) ⟨[.ref a], []⟩) (fun r s' => r = .ok (.ret (.bool true)) ∧ OldK st.heap s'.heap ∧ s'.os = st.os ∧ AllBare s'.gens) st := by
  have rv := vals_ints hi
  have hlen := hi.length
  have key : ∀ H : Hp, Only H → SqL K H a (ns.map V.int) → HOk P w H st.heap → (∀ b, H b ≠ none → b = a) → (H a ≠ none → K.lookup a = none) →
      codeAny (model P w) callerA (.call (.ref fa) ⟨[.ref a], []⟩) (fun r s' => r = .ok (.ret (.bool true)) ∧ OldK st.heap s'.heap ∧ s'.os = st.os ∧ AllBare s'.gens) st := by
    intro H hO hS hok hA hK
    have offD : ∀ {b : Addr} {o : Obj} {es : Array DictEntry} {ep : Nat}, st.heap.get? b = some o → o.data = .dict es ep → H b = none := by
      intro b o es ep e d
      cases q : H b with
      | none => rfl
      | some v =>
        obtain rfl : b = a := hA b (by rw [q]; simp)
        rw [ha] at e
        cases e
        exact nomatch d
    have offK : ∀ {b : Addr} {o : Obj}, K.lookup b = some o → H b = none := by
      intro b o e
      cases q : H b with
      | none => rfl
      | some v =>
        obtain rfl : b = a := hA b (by rw [q]; simp)
        rw [hK (by rw [q]; simp)] at e
        cases e
    have toNs : ∀ {b : Addr} {m : Str → Option Value}, st.heap.Ns b m → (hidT st.heap H).Ns b m := fun ⟨o, es, ep, e, d, r⟩ => ⟨o, es, ep, hidT_get e (offD e d), d, r⟩
    have kb : K.In (hidT st.heap H) := fun b o e => hidT_get (KX b o e) (offK e)
    obtain ⟨mc, l1, l2⟩ := nl
    have M : Mod K mg (hidT st.heap H) := ⟨kb, toNs hn, ⟨mb, toNs hb, hbb⟩, ⟨mc, toNs l1, l2⟩⟩
    have e0 : Env0 P w K mg (hidT st.heap H) callerA [] st H :=
      ⟨rfl, M, fun b o e => of_hidT e, Nat.le_of_eq (hidT_size _ _), trivial, fun b hb => absurd (show b ∈ ([] : List Addr) from hb) (by simp), hok, .of_eq hgens⟩
    refine codeAny_mono (F _ kb (toNs hn) callerA [] st H [.ref a] [.ref a] _ rfl hr e0 (.cons rfl .nil) (hsp H hS)) fun r s' h => ?_
    match r, h with
    | .error e, h => exact h.elim
    | .ok .next, h => exact h.elim
    | .ok .brk, h => exact h.elim
    | .ok .cont, h => exact h.elim
    | .ok (.ret u), h =>
      obtain ⟨v, H', os, bare, un, hok', rr, q⟩ := h
      obtain rfl : v = .bl true := q
      obtain rfl : u = Value.bool true := rr
      refine ⟨rfl, OldK.of_keep fun b o e => ?_, os, bare⟩
      cases q : H b with
      | none => exact un.keep b o e q (fun z => absurd (show b ∈ ([] : List Addr) from z) (by simp)) (by simp)
      | some v =>
        rcases hO b with z | ⟨ob, xs, z⟩
        · rw [q] at z
          cases z
        · obtain ⟨g1, _⟩ := hok b _ z
          obtain ⟨g2, _⟩ := hok' b _ (un.frzs b ob _ z)
          rw [e] at g1
          cases g1
          exact g2
  cases hk : K.lookup a with
  | some o =>
    have e := KX a o hk
    rw [ha] at e
    cases e
    refine key (fun _ => none) (fun _ => .inl rfl) (.inr ⟨_, us.toArray, _, hk, rfl, rfl, rfl, ?_, by simpa using rv⟩) (fun b u z => nomatch z) (fun b z => absurd rfl z) fun z => absurd rfl z
    rw [List.size_toArray, hlen]
    exact hz
  | none =>
    let T : HO := .frz { cls := .type "list", data := .seq us.toArray } (.lst (ns.map V.int))
    refine key (fun b => if b = a then some T else none) (fun b => ?_) (.inl (.inr ⟨_, if_pos rfl⟩)) (fun b u z => ?_) (fun b z => ?_) fun _ => hk
    · by_cases hb : b = a
      · exact .inr ⟨_, _, if_pos hb⟩
      · exact .inl (if_neg hb)
    · by_cases hb : b = a
      · subst hb
        have z' := (if_pos rfl).symm.trans z
        cases z'
        exact ⟨ha, by rw [List.length_map]; exact hz, us, _, rv, ha⟩
      · have z' := (if_neg hb).symm.trans z
        cases z'
    · by_cases hb : b = a
      · exact hb
      · exact absurd (if_neg hb) z

theorem walk_g {l : PySem.W.OpenLaw} {n k : Nat} {q : Program} {loose : List Str} {XP : (Str → Option Value) → Heap → Prop} {YP : World → Heap → Prop} {d : DefRec} {K : Params → PySem.W.Frag} {sp : PySem.W.Frag → Sp}
    (hn : l.most = some n) (hn2 : n ≤ sizeLine) (hdf : d.params.defaults = []) (hr : Room k callerA) (hY : ∀ (w : World) (h : Heap), YP w h → (K w.params).In h)
    (F : ∀ (w : World) (mg : Str → Option Value) (fa : Addr) (h : Heap), (K w.params).In h → h.Ns mainGlobals mg → mg d.name = some (.ref fa) →
      ∀ base : Heap, (K w.params).In base → base.Ns mainGlobals mg → FnG l.prog w (K w.params) mg base k fa (sp (K w.params)))
    (hsp : ∀ (K : PySem.W.Frag) (H : Hp) (a : Addr) (ns : List Int), ns.length ≤ n → SqL K H a (ns.map V.int) → sp K [.ref a] H (fun v _ => v = .bl true) E0) :
    PySem.W.WalkO q loose XP YP l.row.toRowW d [] (fun f vs => PySem.call f vs) := by
  refine Att.attach_call hn hdf fun w s₀ s₁ mg mb fa o pm cd doc a vs ns G Y ho hd hcd hmg hobj hints hlen hg => ?_
  have KX := hY w _ Y
  exact law_callg KX G.T.g G.T.b G.T.builtins G.T.nolimit hg hobj hints (Nat.le_trans hlen hn2) hr (F w mg fa _ KX G.T.g hmg) fun H hS => hsp _ H a ns hlen hS
end MH
/-! The mathematics: texts in order, names, menus. -/
namespace MH
open PySem PySem.Spec PyProof.Rows L2

/-! ### the order of texts -/
def ltS (x y : Str) : Prop := x.cps.toList < y.cps.toList
instance (x y : Str) : Decidable (ltS x y) := inferInstanceAs (Decidable (x.cps.toList < y.cps.toList))
theorem lst_lt_irrefl : ∀ a : List Nat, ¬ a < a := fun a h => List.lt_irrefl a h
theorem ltS_irrefl (x : Str) : ¬ ltS x x := lst_lt_irrefl _
theorem ltS_trans {x y z : Str} (a : ltS x y) (b : ltS y z) : ltS x z := List.lt_trans a b
theorem ltS_tri (x y : Str) : ltS x y ∨ x = y ∨ ltS y x := by
  by_cases h : ltS x y
  · exact .inl h
  · by_cases h2 : ltS y x
    · exact .inr (.inr h2)
    · refine .inr (.inl ?_)
      have e : x.cps.toList = y.cps.toList := List.le_antisymm (List.not_lt.mp h2) (List.not_lt.mp h)
      exact Str.ext' (Array.toList_inj.mp e)
theorem risingS_pw : ∀ (p : Str) (l : List Str), risingS p l = true → l.Pairwise (fun a b => ¬ ltS b a) ∧ ∀ x ∈ l, ¬ ltS x p
  | p, [], _ => ⟨List.Pairwise.nil, fun _ h => nomatch h⟩
  | p, x :: r, h => by
    have h' : (!ltCps x.cps.toList p.cps.toList && risingS x r) = true := h
    rw [Bool.and_eq_true, ltCps_eq] at h'
    obtain ⟨h1, h2⟩ := h'
    obtain ⟨q1, q2⟩ := risingS_pw x r h2
    have n1 : ¬ ltS x p := by
      intro z
      rw [decide_eq_true (show x.cps.toList < p.cps.toList from z)] at h1
      cases h1
    refine ⟨List.Pairwise.cons (fun y hy => q2 y hy) q1, fun y hy => ?_⟩
    rcases List.mem_cons.mp hy with rfl | hy
    · exact n1
    · intro z
      rcases ltS_tri x p with a | a | a
      · exact n1 a
      · subst a
        exact q2 y hy z
      · exact q2 y hy (ltS_trans z a)
theorem sortedS_pw : ∀ {l : List Str}, sortedS l = true → l.Pairwise (fun a b => ¬ ltS b a)
  | [], _ => List.Pairwise.nil
  | x :: r, h => List.Pairwise.cons (risingS_pw x r h).2 (risingS_pw x r h).1
/-- two arrangements in order of the same texts are one -/
theorem sorted_one {l m : List Str} (p : l.Perm m) (hl : sortedS l = true) (hm : sortedS m = true) : l = m :=
  p.eq_of_pairwise (fun a b _ _ h1 h2 => by
    rcases ltS_tri a b with z | z | z
    · exact absurd z h2
    · exact z
    · exact absurd z h1) (sortedS_pw hl) (sortedS_pw hm)
/-- in order and none twice: each before the next -/
theorem sorted_lt {l : List Str} (hn : l.Nodup) (h : sortedS l = true) : l.Pairwise ltS := by
  have a := sortedS_pw h
  have b : l.Pairwise (fun x y => x ≠ y) := hn
  refine (List.pairwise_and_iff.mpr ⟨a, b⟩).imp fun {x y} z => ?_
  rcases ltS_tri x y with q | q | q
  · exact q
  · exact absurd q z.2
  · exact absurd q z.1

/-! ### names -/
def letters : Str := "abcdefghijklmnopqrstuvwxyz"
def digits : Str := "0123456789"
def isL (c : Nat) : Bool := decide (c ∈ letters.cps.toList)
def isD (c : Nat) : Bool := decide (c ∈ digits.cps.toList)
def nameOk (z : Str) : Bool := decide (1 ≤ z.length) && (decide (z.length ≤ 8) && (isL (z.cps.toList.getD 0 0) && z.cps.toList.all fun c => isL c || isD c))
def pool : List Str := ["a", "a0", "aa", "ab", "b", "b9", "ba", "c", "d", "k1", "q", "zz", "zzzzzzzz"]
theorem pool_ok : ∀ z ∈ pool, nameOk z = true := by decide +kernel
theorem pool_nd : pool.Nodup := by decide +kernel

/-! ### menus -/
def menusUp (l : List Str) : List (List Str) := l.foldl (fun acc x => acc ++ acc.map (· ++ [x])) [[]]
theorem menusUp_snoc (l : List Str) (x : Str) : menusUp (l ++ [x]) = menusUp l ++ (menusUp l).map (· ++ [x]) := by
  unfold menusUp
  rw [List.foldl_append]
  rfl
theorem foldl_head (f : List (List Str) → Str → List (List Str)) (hf : ∀ a r x, ∃ r', f (a :: r) x = a :: r') : ∀ (l : List Str) (a : List Str) (r : List (List Str)), ∃ r', l.foldl f (a :: r) = a :: r'
  | [], a, r => ⟨r, rfl⟩
  | x :: l, a, r => by
    obtain ⟨r', e⟩ := hf a r x
    rw [List.foldl_cons, e]
    exact foldl_head f hf l a r'
theorem menusUp_sub : ∀ (n : Nat) (l : List Str), l.length = n → ∀ c ∈ menusUp l, c.Sublist l
  | 0, l, h, c, hc => by
    obtain rfl : l = [] := List.length_eq_zero_iff.mp h
    obtain rfl : c = [] := by simpa [menusUp] using hc
    exact List.Sublist.refl _
  | n + 1, l, h, c, hc => by
    obtain ⟨m, x, rfl⟩ : ∃ m x, l = m ++ [x] := ⟨l.dropLast, l.getLast (by intro e; rw [e] at h; cases h), (List.dropLast_concat_getLast _).symm⟩
    rw [menusUp_snoc, List.mem_append, List.mem_map] at hc
    have hm : m.length = n := by
      rw [List.length_append] at h
      exact Nat.succ.inj h
    rcases hc with hc | ⟨d, hd, rfl⟩
    · exact (menusUp_sub n m hm c hc).trans (List.sublist_append_left _ _)
    · exact (menusUp_sub n m hm d hd).append (List.Sublist.refl _)
/-- all menus but the empty one -/
def menusOf (l : List Str) : List (List Str) := (menusUp l).tail
theorem menusUp_len : ∀ (n : Nat) (l : List Str), l.length = n → (menusUp l).length = 2 ^ n
  | 0, l, h => by
    obtain rfl : l = [] := List.length_eq_zero_iff.mp h
    rfl
  | n + 1, l, h => by
    obtain ⟨m, x, rfl⟩ : ∃ m x, l = m ++ [x] := ⟨l.dropLast, l.getLast (by intro e; rw [e] at h; cases h), (List.dropLast_concat_getLast _).symm⟩
    have hm : m.length = n := by
      rw [List.length_append] at h
      exact Nat.succ.inj h
    rw [menusUp_snoc, List.length_append, List.length_map, menusUp_len n m hm, Nat.pow_succ]
    omega
theorem menusUp_ne : ∀ (n : Nat) (l : List Str), l.length = n → ∃ r, menusUp l = [] :: r ∧ ∀ c ∈ r, c ≠ []
  | 0, l, h => by
    obtain rfl : l = [] := List.length_eq_zero_iff.mp h
    exact ⟨[], rfl, fun _ h => nomatch h⟩
  | n + 1, l, h => by
    obtain ⟨m, x, rfl⟩ : ∃ m x, l = m ++ [x] := ⟨l.dropLast, l.getLast (by intro e; rw [e] at h; cases h), (List.dropLast_concat_getLast _).symm⟩
    have hm : m.length = n := by
      rw [List.length_append] at h
      exact Nat.succ.inj h
    obtain ⟨r, e, hr⟩ := menusUp_ne n m hm
    refine ⟨r ++ (menusUp m).map (· ++ [x]), by rw [menusUp_snoc, e]; rfl, fun c hc => ?_⟩
    rcases List.mem_append.mp hc with hc | hc
    · exact hr c hc
    · obtain ⟨d, _, rfl⟩ := List.mem_map.mp hc
      simp
theorem menusOf_ok {l c : List Str} (h : c ∈ menusOf l) : c ≠ [] ∧ c.Sublist l := by
  obtain ⟨r, e, hr⟩ := menusUp_ne l.length l rfl
  have h' : c ∈ (menusUp l).tail := h
  refine ⟨?_, menusUp_sub l.length l rfl c (List.mem_of_mem_tail h')⟩
  rw [e] at h'
  exact hr c h'
end MH
/-! Data as repr shows it: its length, and what == and repr ask. -/
namespace MH
open PySem PySem.Spec PyProof.Rows L2
mutual
def cost : PyData → Nat
  | .none => 4
  | .bool _ => 5
  | .int _ => 101
  | .str x => 10 * x.length + 2
  | .list xs => costAll xs + 3
  | .tuple xs => costAll xs + 3
  | .dict _ => 0
def costAll : List PyData → Nat
  | [] => 0
  | x :: xs => cost x + 2 + costAll xs
end
mutual
def okD : PyData → Bool
  | .none => true
  | .bool _ => true
  | .int i => decide (i.natAbs < 10 ^ 100)
  | .str x => PyData.strOk x
  | .list xs => okDs xs
  | .tuple xs => okDs xs
  | .dict _ => false
def okDs : List PyData → Bool
  | [] => true
  | x :: xs => okD x && okDs xs
end
theorem strOk_lt {x : Str} (h : PyData.strOk x = true) : ∀ c ∈ x.cps.toList, c < 16 ^ 8 := by
  intro c hc
  unfold PyData.strOk at h
  rw [← Array.all_toList, List.all_eq_true] at h
  have := of_decide_eq_true (h c hc)
  omega
theorem okDs_len (xs : List PyData) : xs.length * 2 ≤ costAll xs := by
  induction xs with
  | nil => exact Nat.le_refl _
  | cons x xs ih =>
    show (xs.length + 1) * 2 ≤ cost x + 2 + costAll xs
    omega
mutual
theorem shown_le : ∀ d : PyData, okD d = true → d.shown.length ≤ cost d
  | .none, _ => by decide +kernel
  | .bool true, _ => by decide +kernel
  | .bool false, _ => by decide +kernel
  | .int i, h => by
    have q := int_text_length_le10 (k := 100) (by decide) (of_decide_eq_true (show decide (i.natAbs < 10 ^ 100) = true from h))
    show (Str.ofString (toString i)).length ≤ 101
    rw [PySem.ofString_length]
    exact q
  | .str x, h => by
    rw [PyData.shown]
    exact StrLaws.reprText_len x (strOk_lt h)
  | .list xs, h => by
    have q := shownAll_le xs h
    have q2 := listText_len_le (PyData.shownAll xs)
    rw [PyData.shown]
    show _ ≤ costAll xs + 3
    omega
  | .tuple xs, h => by
    have q := shownAll_le xs h
    have q2 := tupleText_len_le (PyData.shownAll xs)
    rw [PyData.shown]
    show _ ≤ costAll xs + 3
    omega
  | .dict _, h => nomatch h
theorem shownAll_le : ∀ xs : List PyData, okDs xs = true → ((PyData.shownAll xs).map (·.length)).sum + 2 * (PyData.shownAll xs).length ≤ costAll xs
  | [], _ => by simp [PyData.shownAll]
  | x :: xs, h => by
    have h' : (okD x && okDs xs) = true := h
    rw [Bool.and_eq_true] at h'
    have a := shown_le x h'.1
    have b := shownAll_le xs h'.2
    rw [PyData.shownAll, List.map_cons, List.sum_cons, List.length_cons]
    show _ ≤ cost x + 2 + costAll xs
    omega
end
mutual
theorem ok_show : ∀ d : PyData, okD d = true → d.showable = true
  | .none, _ => by simp only [PyData.showable]
  | .bool _, _ => by simp only [PyData.showable]
  | .int i, h => by
    have q := of_decide_eq_true (show decide (i.natAbs < 10 ^ 100) = true from h)
    rw [PyData.showable]
    refine decide_eq_true ?_
    by_cases z : i.natAbs = 0
    · rw [z]
      decide
    · rw [Nat.log2_lt z]
      exact Nat.lt_of_lt_of_le q (by decide +kernel)
  | .str _, _ => by simp only [PyData.showable]
  | .list xs, h => by
    rw [PyData.showable]
    exact ok_showAll xs h
  | .tuple xs, h => by
    rw [PyData.showable]
    exact ok_showAll xs h
  | .dict _, h => nomatch h
theorem ok_showAll : ∀ xs : List PyData, okDs xs = true → PyData.showableAll xs = true
  | [], _ => by simp only [PyData.showableAll]
  | x :: xs, h => by
    have h' : (okD x && okDs xs) = true := h
    rw [Bool.and_eq_true] at h'
    rw [PyData.showableAll, ok_show x h'.1, ok_showAll xs h'.2]
    rfl
end
mutual
theorem ok_lay : ∀ d : PyData, okD d = true → d.canLay0 = true
  | .none, _ => by simp only [PyData.canLay0]
  | .bool _, _ => by simp only [PyData.canLay0]
  | .int _, _ => by simp only [PyData.canLay0]
  | .str x, h => by
    rw [PyData.canLay0]
    exact h
  | .list xs, h => by
    rw [PyData.canLay0]
    exact ok_layAll xs h
  | .tuple xs, h => by
    rw [PyData.canLay0]
    exact ok_layAll xs h
  | .dict _, h => nomatch h
theorem ok_layAll : ∀ xs : List PyData, okDs xs = true → PyData.canLayAll0 xs = true
  | [], _ => by simp only [PyData.canLayAll0]
  | x :: xs, h => by
    have h' : (okD x && okDs xs) = true := h
    rw [Bool.and_eq_true] at h'
    rw [PyData.canLayAll0, ok_lay x h'.1, ok_layAll xs h'.2]
    rfl
end
/-- what repr of data asks -/
structure ShowOk (K : PySem.W.Frag) (H : Hp) (a : Addr) (d : PyData) : Prop where
  dp : Dp K H (.ref a) d
  sh : d.showable = true
  nd : d.hasDict = false
  dep : d.depth ≤ 60
  len : d.shown.length ≤ sizeLine
theorem show_of {K : PySem.W.Frag} {H : Hp} {a : Addr} {d : PyData} (h : Dp K H (.ref a) d) (ok : okD d = true) (h1 : d.depth ≤ 60) (h2 : cost d ≤ 100000) : ShowOk K H a d :=
  ⟨h, ok_show d ok, PyData.hasDict_of_canLay d (ok_lay d ok), h1, Nat.le_trans (shown_le d ok) (Nat.le_trans h2 (by decide))⟩
theorem shaped_of {d : PyData} (ok : okD d = true) (h : d.depth ≤ 64) : SeqAt.shaped d = true := by
  unfold SeqAt.shaped
  rw [ok_lay d ok, decide_eq_true h]
  rfl
/-! texts in a row -/
theorem okDs_strs {ss : List Str} (h : ∀ z ∈ ss, PyData.strOk z = true) : okDs (ss.map PyData.str) = true := by
  induction ss with
  | nil => rfl
  | cons z r ih =>
    show (PyData.strOk z && okDs (r.map PyData.str)) = true
    rw [h z List.mem_cons_self, ih fun y hy => h y (List.mem_cons_of_mem _ hy)]
    rfl
theorem costAll_strs {ss : List Str} {n : Nat} (h : ∀ z ∈ ss, z.length ≤ n) : costAll (ss.map PyData.str) ≤ ss.length * (10 * n + 4) := by
  induction ss with
  | nil => exact Nat.zero_le _
  | cons z r ih =>
    show 10 * z.length + 2 + 2 + costAll (r.map PyData.str) ≤ (r.length + 1) * (10 * n + 4)
    have a := h z List.mem_cons_self
    have b := ih fun y hy => h y (List.mem_cons_of_mem _ hy)
    rw [Nat.add_mul]
    omega
theorem depth_strs : ∀ ss : List Str, PyData.depthAll (ss.map PyData.str) = 0
  | [] => by rw [List.map_nil, PyData.depthAll]
  | z :: r => by rw [List.map_cons, PyData.depthAll, depth_strs r, PyData.depth]; rfl
theorem dp_strs {K : PySem.W.Frag} {H : Hp} : ∀ ss : List Str, DpAll K H (ss.map V.str) (ss.map PyData.str)
  | [] => .nil
  | z :: r => .cons (.str z) (dp_strs r)
theorem isL_le {c : Nat} (h : isL c = true) : c < 128 := by
  have q : ∀ c ∈ letters.cps.toList, c < 128 := by decide +kernel
  exact q c (of_decide_eq_true h)
theorem isD_le {c : Nat} (h : isD c = true) : c < 128 := by
  have q : ∀ c ∈ digits.cps.toList, c < 128 := by decide +kernel
  exact q c (of_decide_eq_true h)
theorem nameOk_len {z : Str} (h : nameOk z = true) : z.length ≤ 8 := by
  unfold nameOk at h
  simp only [Bool.and_eq_true, decide_eq_true_eq] at h
  exact h.2.1
theorem nameOk_str {z : Str} (h : nameOk z = true) : PyData.strOk z = true := by
  unfold nameOk at h
  simp only [Bool.and_eq_true, decide_eq_true_eq] at h
  have q := h.2.2.2
  rw [List.all_eq_true] at q
  unfold PyData.strOk
  rw [← Array.all_toList, List.all_eq_true]
  intro c hc
  refine decide_eq_true ?_
  have w := q c hc
  rw [Bool.or_eq_true] at w
  rcases w with w | w
  · have := isL_le w
    omega
  · have := isD_le w
    omega
end MH
/-! A tuple taken from the back: t[::-1]. -/
namespace MH
open PySem PySem.Spec PyProof.Rows L2 PySem.SeqAt HT
section
variable {prog : Program} {w : World} {A : Around} {E : Value → Shared → Prop} {s : Shared}
theorem applied_back {sl : Addr} {vk : Value} {n : Nat} {Q : Int × Int × Nat → Shared → Prop} (hs : s.heap.IsSliceOf sl .none .none vk) (pk : IsPart vk (some (-1)))
    (h : Q ((n : Int) - 1, -1, n) s) : wpAny (model prog w) A (Builtin.Slice.sliceApplied (.ref sl) (pure (n : Int))) Q E s := by
  obtain ⟨os, hos, hcs, hds⟩ := id hs
  unfold Builtin.Slice.sliceApplied Builtin.Slice.sliceFields
  refine wpAny_bind (wpAny_bind (wpAny_field hos hds (x := .none) rfl (wpAny_bind (wpAny_field hos hds (x := .none) rfl (wpAny_bind (wpAny_field hos hds (x := vk) rfl (wpAny_pure ?_)))))))
  refine wpAny_bind (slicePart_ pk ?_)
  show wpAny _ _ (if ((-1 : Int) == 0) = true then _ else _) _ _ s
  rw [if_neg (by decide)]
  refine wpAny_bind (slicePart_none (wpAny_bind (slicePart_none (wpAny_bind (wpAny_pure ?_)))))
  have e : Builtin.Slice.sliceAdjust none none (-1) (n : Int) = ((n : Int) - 1, -1) := by
    unfold Builtin.Slice.sliceAdjust
    simp
  show wpAny _ _ (match Builtin.Slice.sliceAdjust none none (-1) (n : Int) with | (lo, hi) => pure (lo, (-1 : Int), Builtin.Slice.slicePlaces lo hi (-1))) _ _ s
  rw [e]
  have e2 : Builtin.Slice.slicePlaces ((n : Int) - 1) (-1) (-1) = n := by
    unfold Builtin.Slice.slicePlaces
    simp
    try omega
  show wpAny _ _ (pure ((n : Int) - 1, (-1 : Int), Builtin.Slice.slicePlaces ((n : Int) - 1) (-1) (-1))) _ _ s
  rw [e2]
  exact wpAny_pure h
theorem filter_congr {α β : Type} {f g : α → Option β} : ∀ {l : List α}, (∀ x ∈ l, f x = g x) → l.filterMap f = l.filterMap g
  | [], _ => rfl
  | x :: l, h => by
    rw [List.filterMap_cons, List.filterMap_cons, h x List.mem_cons_self, filter_congr fun y hy => h y (List.mem_cons_of_mem _ hy)]
theorem pick_back (xs : Array Value) : ((List.range xs.size).filterMap fun (m : Nat) => xs[((xs.size : Int) - 1 + (m : Int) * (-1)).toNat]?).toArray = xs.toList.reverse.toArray := by
  have e : (List.range xs.size).filterMap (fun (m : Nat) => xs[((xs.size : Int) - 1 + (m : Int) * (-1)).toNat]?) = ((List.range xs.size).map (fun k => xs.size - 1 - k)).filterMap (xs[·]?) := by
    rw [List.filterMap_map]
    refine filter_congr fun m hm => ?_
    have := List.mem_range.mp hm
    have e2 : ((xs.size : Int) - 1 + (m : Int) * (-1)).toNat = xs.size - 1 - m := by omega
    rw [e2]
    rfl
  rw [e, PySem.W.krv_range, List.filterMap_reverse, PySem.W.krv_all]
theorem getItem_back {t sl : Addr} {items : Array Value} {vk : Value} {Q : Value → Shared → Prop} (ht : IsTup s.heap t items) (hs : s.heap.IsSliceOf sl .none .none vk) (pk : IsPart vk (some (-1)))
    (h : Q (.ref s.heap.objs.size) { s with heap := s.heap.push { cls := .type "tuple", data := .seq items.toList.reverse.toArray } })
    (hsz : items.size ≤ sizeLine) : wpAny (model prog w) A (getItem (.ref t) (.ref sl)) Q E s := by
  have htake : sizeOk (.seq items.toList.reverse.toArray) := by
    show items.toList.reverse.toArray.size ≤ sizeLine
    rw [List.size_toArray, List.length_reverse, Array.length_toList]
    exact hsz
  obtain ⟨os, hos, hcs, hds⟩ := id hs
  have hTs : s.TypeIs (.ref sl) "slice" := ⟨os, hos, hcs⟩
  unfold getItem
  try with_reducible refine wpAny_holding ?_
  first | refine wpAny_bind (wpAny_pure ?_) | skip
  refine wpAny_bind (wpAny_sequenceKey ht.typeIs (by decide) ?_)
  refine wpAny_bind (wpAny_callSpecial?_slot (name := Str.ofString "__getitem__") ht.typeIs PyProof.Rows.slot_tuple_getitem
    (wpAny_call_entry PyProof.Rows.slot_tuple_getitem ht.typeIs entry_tuple_getitem ?_ (args_tuple_getitem _ _)))
  show wpAny _ _ (Builtin.Tuple.tupleItemsOf (.ref t) >>= _) _ _ s
  refine wpAny_bind (tupleItemsOf_ ht ?_)
  refine wpAny_bind (wpAny_typeOf hTs ?_)
  rw [if_pos (by decide)]
  refine wpAny_bind (applied_back hs pk ?_)
  have hno : ¬ (((items.size : Int) - 1 == 0 && (-1 : Int) == 1 && items.size == items.size) = true) := by
    rw [show ((-1 : Int) == 1) = false from rfl, Bool.and_false, Bool.false_and]
    exact Bool.false_ne_true
  show wpAny _ _ (if ((items.size : Int) - 1 == 0 && (-1 : Int) == 1 && items.size == items.size) = true then _ else _) _ _ s
  rw [if_neg hno, pick_back]
  first
    | exact wpAny_bind (m := Builtin.Tuple.tupleExact _) (wpAny_newObj_type (wpAny_pure ⟨_, rfl, wpAny_pure h⟩) htake)
    | exact wpAny_bind (m := Builtin.Tuple.tupleExact _) (wpAny_newObj_type (wpAny_bind (wpAny_pure (wpAny_pure ⟨_, rfl, wpAny_pure h⟩))) htake)
    | exact wpAny_bind (wpAny_bind (m := Builtin.Tuple.tupleExact _) (wpAny_newObj_type (wpAny_pure (wpAny_pure ⟨_, rfl, wpAny_pure h⟩)) htake))
    | exact wpAny_bind (wpAny_bind (m := Builtin.Tuple.tupleExact _) (wpAny_newObj_type (wpAny_pure ⟨_, rfl, wpAny_pure h⟩) htake))
end
def tBackT (K : PySem.W.Frag) (te : TE) : TE := fun σ H Q => te σ H fun x H1 => ∃ a xs, x = .ref a ∧ SqT K H1 a xs ∧ ∀ p, H1 p = none → Q (.ref p) (upd H1 p (.tup xs.reverse))
/-- t[::-1] -/
theorem pe_backT {X : Cx} {e : Expr} {te : TE} {j : Nat} {pos p2 p3 p4 : Pos} (he : PE X e te) : PE X (.Subscript e (.Slice none none (some (.UnaryOp .USub (.Constant (.int 1) j p4) p3)) p2) pos) (tBackT X.K te) := by
  refine ⟨fun pins s σ H Q I h => ?_⟩
  refine Subscript_ (thn (he.run pins s σ H _ I h) fun v s1 ⟨x, H1, I1, r1, a, xs, ex, hx, q⟩ => ?_)
  subst ex
  obtain rfl : v = Value.ref a := r1
  refine wpAny_Slice ?_
  rw [evalPart_none, evalPart_some]
  refine wpAny_pure (wpAny_pure ?_)
  refine thn ((pe_un un_neg pe_int).run pins s1 σ H1 (fun y H2 => y = .int (-1) ∧ H2 = H1) I1 ⟨1, rfl, rfl, rfl⟩) fun vk s2 ⟨y, H2, I2, ry, ey, eH⟩ => ?_
  subst ey
  subst eH
  obtain ⟨tk, rfl⟩ := ry
  have I3 : Inv X pins σ H2 { s2 with heap := s2.heap.push { cls := .type "slice", data := .fields #[.none, .none, .int (-1) tk] } } := I2.kept (t' := s2.toks) fun b ob q => Heap.get?_push_of_some _ q
  obtain ⟨its, r, ht, hz⟩ := I3.tuple hx
  have hsl := Heap.IsSliceOf.new s2.heap .none .none (.int (-1) tk)
  refine tail_any (ops := [.ref a, .ref s2.heap.objs.size]) ht.typeIs PyProof.Rows.slot_tuple_getitem.lookup (getItem_back ht hsl (.int _ _) ?_ (by rw [List.size_toArray, ← r.length]; exact hz)) (by with_unfolding_all rfl)
  refine ⟨.ref _, _, I3.laid (t' := s2.toks) (o := .tup xs.reverse) (fun b ob q => Heap.get?_push_of_some _ q) (Nat.le_refl _) ?_, rfl, q _ (I3.hok.fresh (Nat.le_refl _))⟩
  exact ⟨by rw [List.length_reverse]; exact hz, _, r.reverse, IsTup.new _ _⟩
end MH
/-! Own special methods of instances: -o, o == p, o != p, str(o). -/
namespace MH
open PySem PySem.Spec PyProof.Rows L2

section
variable {prog : Program} {w : World} {M : Model} {A : Around} {E : Value → Shared → Prop} {s : Shared} {K : PySem.W.Frag} {x C f L : Addr} {h₀ : Heap} {m : Str → Option Value} {ox : Obj} {od : Option Obj} {b tb : Value}
open PySem.W in
theorem ifBound_objNe {args : List Value} {Q : Option Value → Shared → Prop} (X : K.In s.heap) (I : InstAt s.heap x ox C od) (hs : findIn K (.ref C) "__ne__" = some (some (.builtin "object.__ne__")))
    (h : wpAny M A (call (.builtin "object.__ne__") (.ref x :: args)) (fun v => Q (some v)) E s) : wpAny M A (callSpecialIfBound? (.ref x) "__ne__" args) Q E s := by
  simp only [callSpecialIfBound?, bindSpecialIfBound?]
  refine wpAny_holding (wpAny_bind (wpAny_bind (wpAny_bind (I.type.here ((looks_findIn X hs).here ?_)))))
  refine wpAny_bind (wpAny_askSetting (wpAny_ite ?_))
  have fin : wpAny M A (call (.builtin "object.__ne__") ([.ref x] ++ args) >>= fun v => pure (some v)) Q E s := wpAny_bind (wpAny_mono h (fun v s' h' => wpAny_pure h') fun _ _ h' => h')
  split
  · exact wpAny_bind (wpAny_of_eq (F.cmp_object.ne.bind _) (wpAny_pure (by exact fin)))
  · exact wpAny_tryCatch (wpAny_bind (wpAny_of_eq (F.cmp_object.ne.bind _) (wpAny_pure (by exact fin))))
open PySem.W Builtin in
theorem entry_ne {Q : Fin → Shared → Prop} (hu : A.units < cLine) (X : K.In s.heap) (I : InstAt s.heap x ox C od) (hs : findIn K (.ref C) "__eq__" = some (some (.ref f))) (hf : isFn K (.ref f) = true)
    (h : wpAny M A (call (.ref f) [.ref x, b]) (fun v s' => ∃ k, v = .bool k ∧ Q (.done (.ret (.bool (!k)))) s') E s) : wpAny M A (Builtin.«object.__ne__» ⟨[.ref x, b], []⟩) Q E s := by
  unfold Builtin.«object.__ne__»
  repeat (first
    | with_reducible refine wpAny_cRoomFor hu ?_
    | (refine wpAny_bind (m := callSpecialIfBound? (.ref x) (Str.ofString "__eq__") [b]) (ifBound_K X I hs hf (wpAny_mono h (fun r s' hr => by
          obtain ⟨k, rfl, hq⟩ := hr
          repeat (first | exact hq | exact wpAny_pure hq | exact wpAny_truthy_bool hq | (refine wpAny_bind (m := truthy (.bool _)) (wpAny_truthy_bool ?_)) | wp_step)) fun _ _ e => e)))
    | wp_step)
open PySem.W in
theorem ne_K {Q : Value → Shared → Prop} (hu : A.units < cLine) (hu1 : A.in1.units < cLine) (F₀ : Fr h₀ L s.heap m) (X₀ : K.In h₀) (I : InstAt s.heap x ox C od) (hb : Looks (model prog w) s.heap (typeOf b) tb) (hn : notFirst K C tb = true)
    (hne : findIn K (.ref C) "__ne__" = some (some (.builtin "object.__ne__"))) (hm : mroIn K C (.type "object") = some true) (hs : findIn K (.ref C) "__eq__" = some (some (.ref f))) (hf : isFn K (.ref f) = true)
    (h : wpAny (model prog w) A.in1 (call (.ref f) [.ref x, b]) (fun v s' => ∃ k, v = .bool k ∧ Q (.bool (!k)) s') E s) : wpAny (model prog w) A (richCompare .NotEq (.ref x) b) Q E s := by
  have X := X₀.keeps F₀.keep
  have one : wpAny (model prog w) A (tryCompare (.ref x) "__ne__" b) (fun r s' => ∃ v, r = some v ∧ Q v s') E s := by
    unfold tryCompare
    refine wpAny_bind (ifBound_objNe X I hne (wpAny_call (codeAny_call_builtin F.cmp_object.ne.plain F.cmpEntry_ne (check_slot F.cmpKind_ne F.cmpSplit_ne (I.type.andThen (looks_mroIn X hm)) (F.cmpArgs_ne _ _)
      (entry_ne (A := A.in1) hu1 X I hs hf (wpAny_mono h (fun v s' hv => ?_) fun _ _ e => e))))))
    obtain ⟨k, rfl, hq⟩ := hv
    first | exact ⟨k, rfl, wpAny_pure ⟨_, rfl, hq⟩⟩ | exact ⟨k, rfl, wpAny_pure (wpAny_pure ⟨_, rfl, hq⟩)⟩ | exact ⟨k, rfl, ⟨_, rfl, hq⟩⟩
  unfold richCompare
  simp only [oneThing_ref]
  refine wpAny_holding (wpAny_bind (wpAny_cRoomFor hu ?_))
  rw [cmpInfo_NotEq]
  dsimp only
  refine wpAny_bind (I.type.here (wpAny_bind (hb.here ?_)))
  split
  · rename_i q
    have e : subIn K tb (.ref C) = some false := by
      rcases Bool.or_eq_true_iff.mp hn with e | e
      · rw [beq_iff_eq.mp e] at q; simp at q
      · exact beq_iff_eq.mp e
    refine wpAny_bind ((looks_subIn X e).here ?_)
    simp only [Bool.false_eq_true, if_false]
    refine wpAny_bind (wpAny_mono one (fun r s' z => ?_) fun _ _ e => e)
    obtain ⟨v, rfl, hq⟩ := z
    exact wpAny_pure hq
  · refine wpAny_bind (wpAny_pure ?_)
    simp only [Bool.false_eq_true, if_false]
    refine wpAny_bind (wpAny_mono one (fun r s' z => ?_) fun _ _ e => e)
    obtain ⟨v, rfl, hq⟩ := z
    exact wpAny_pure hq
end

section
variable {X : Cx} {CX : CXT} {k : Nat} {C f : Addr} {fd : FuncData} {ps : List Str} {sp : Sp} {E : XK}
/-- a def called from a deeper place (a builtin calls it) -/
theorem run_A {pins : List (Addr × Obj)} {σ : L2.St} {H : Hp} {s : Shared} {Q : VK} {A : Around} {us : List Value} {vs : List V} (F : FnOk X.prog X.w X.K X.mg X.base CX k f fd ps sp) (hr : Room k A) (e0 : Env0 X.prog X.w X.K X.mg X.base A X.stack s H)
    (hb : Binds X.K fd ps []) (hx : Passes CX X E) (I : Inv X pins σ H s) (r : Vals vs us) (h : sp vs H Q E) : wpAny (model X.prog X.w) A (call (.ref f) us) (EP X pins σ Q) X.xe s := by
  have hl : (us ++ []).length = ps.length := by rw [List.append_nil, ← r.length, F.len _ _ _ _ h]
  have hb2 := hb s us I.kIn hl
  rw [List.append_nil] at hb2
  refine wpAny_call (codeAny_mono (F.run A X.stack s H ⟨us, []⟩ us vs Q E hr e0 hb2 r h) fun r s' hq => ?_)
  cases r with
  | error e => exact hx pins σ H s e s' I hq
  | ok fl =>
    cases fl with
    | ret u => exact I.after hq
    | next => exact False.elim hq
    | brk => exact False.elim hq
    | cont => exact False.elim hq
/-- what len asks of a list or tuple (call_len_seq), named -/
abbrev rLenSq (K : PySem.W.Frag) : List V → Hp → VK → Prop := fun xs H Q => ∃ p ys, xs = [V.ref p] ∧ (SqL K H p ys ∨ SqT K H p ys) ∧ Q (V.int (ys.length : Nat)) H
/-- -o -/
def rUO (C : Addr) (sp : Sp) (E : XK) : V → Hp → VK → Prop := fun x H Q => ∃ a dx fs, x = .ref a ∧ H a = some (.ins C dx fs) ∧ sp [.ref a] H Q E
theorem un_negO (hm : Meth X.K C "__neg__" f) (F : FnOk X.prog X.w X.K X.mg X.base CX k f fd ps sp) (hr : Room k X.A) (hb : Binds X.K fd ps []) (hx : Passes CX X E) : UnR X (unaryOp .USub) (rUO C sp E) := by
  intro pins s σ H x v Q I rx h
  obtain ⟨a, dx, fs, rfl, ha, q⟩ := h
  obtain rfl : v = Value.ref a := rx
  obtain ⟨mA, J, _⟩ := ins_get I.hok ha
  obtain ⟨od, J, _⟩ := J.look
  obtain ⟨m, hF⟩ := I.fr
  exact PySem.W.ksp_neg hF I.ok.mod.kin J hm.at_ hm.fn (run_A F hr I.env0 hb hx I (show Vals [V.ref a] [Value.ref a] from .cons rfl .nil) q)
/-- o == p -/
def rOO (C : Addr) (sp : Sp) (E : XK) : R2 := fun x y H Q => ∃ a b dx dy fs gs, x = .ref a ∧ y = .ref b ∧ H a = some (.ins C dx fs) ∧ H b = some (.ins C dy gs) ∧ sp [.ref a, .ref b] H (fun v H' => (∃ k, v = .bl k) ∧ Q v H') E
theorem op_eqO (hm : Meth X.K C "__eq__" f) (F : FnOk X.prog X.w X.K X.mg X.base CX k f fd ps sp) (hr : Room k X.A) (hb : Binds X.K fd ps []) (hx : Passes CX X E) : OpR X (compareOp .Eq) (rOO C sp E) := by
  intro pins s σ H x y v u Q I rx ry h
  obtain ⟨a, b, dx, dy, fs, gs, rfl, rfl, ha, hb', q⟩ := h
  obtain rfl : v = Value.ref a := rx
  obtain rfl : u = Value.ref b := ry
  obtain ⟨mA, J, _⟩ := ins_get I.hok ha
  obtain ⟨mB, J', _⟩ := ins_get I.hok hb'
  obtain ⟨od, J, _⟩ := J.look
  obtain ⟨od', J', _⟩ := J'.look
  obtain ⟨m, hF⟩ := I.fr
  refine PySem.W.cmp_K (op := .Eq) (tb := .ref C) hr.units0 hF I.ok.mod.kin J J'.type (by simp [PySem.W.notFirst]) hm.at_ hm.fn ?_
  refine wpAny_mono (run_A F hr I.env0 hb hx I (show Vals [V.ref a, V.ref b] [Value.ref a, Value.ref b] from .cons rfl (.cons rfl .nil)) q) (fun r s' z => ?_) fun _ _ e => e
  obtain ⟨v, H', I', rv, ⟨k, rfl⟩, q'⟩ := z
  obtain rfl : r = Value.bool k := rv
  exact ⟨.bl k, H', I', rfl, q'⟩
/-- o != p by the own == -/
def rONe (C : Addr) (sp : Sp) (E : XK) : R2 := fun x y H Q => ∃ a b dx dy fs gs, x = .ref a ∧ y = .ref b ∧ H a = some (.ins C dx fs) ∧ H b = some (.ins C dy gs) ∧ sp [.ref a, .ref b] H (fun v H' => ∃ k, v = .bl k ∧ Q (.bl (!k)) H') E
theorem op_neO (hm : Meth X.K C "__eq__" f) (hne : PySem.W.findIn X.K (.ref C) "__ne__" = some (some (.builtin "object.__ne__"))) (ho : PySem.W.mroIn X.K C (.type "object") = some true)
    (F : FnOk X.prog X.w X.K X.mg X.base CX k f fd ps sp) (hr : Room (k + 1) X.A) (hb : Binds X.K fd ps []) (hx : Passes CX X E) : OpR X (compareOp .NotEq) (rONe C sp E) := by
  intro pins s σ H x y v u Q I rx ry h
  obtain ⟨a, b, dx, dy, fs, gs, rfl, rfl, ha, hb', q⟩ := h
  obtain rfl : v = Value.ref a := rx
  obtain rfl : u = Value.ref b := ry
  obtain ⟨mA, J, _⟩ := ins_get I.hok ha
  obtain ⟨mB, J', _⟩ := ins_get I.hok hb'
  obtain ⟨od, J, _⟩ := J.look
  obtain ⟨od', J', _⟩ := J'.look
  obtain ⟨m, hF⟩ := I.fr
  refine ne_K (tb := .ref C) hr.units0 hr.in1.units0 hF I.ok.mod.kin J J'.type (by simp [PySem.W.notFirst]) hne ho hm.at_ hm.fn ?_
  refine wpAny_mono (run_A F hr.in1 I.env0.in1 hb hx I (show Vals [V.ref a, V.ref b] [Value.ref a, Value.ref b] from .cons rfl (.cons rfl .nil)) q) (fun r s' z => ?_) fun _ _ e => e
  obtain ⟨v, H', I', rv, k, rfl, q'⟩ := z
  obtain rfl : r = Value.bool k := rv
  exact ⟨k, rfl, .bl (!k), H', I', rfl, q'⟩
/-- str(o) -/
def rStrO (C : Addr) (sp : Sp) (E : XK) : List V → Hp → VK → Prop := fun xs H Q => ∃ a dx fs, xs = [.ref a] ∧ H a = some (.ins C dx fs) ∧ sp [.ref a] H (fun v H' => (∃ z, v = .str z) ∧ Q v H') E
theorem call_strO (hm : Meth X.K C "__str__" f) (F : FnOk X.prog X.w X.K X.mg X.base CX k f fd ps sp) (hr : Room (k + 2) X.A) (hb : Binds X.K fd ps []) (hx : Passes CX X E) : CallR X (.type "str") (rStrO C sp E) := by
  intro pins s σ H xs us Q I r h
  obtain ⟨a, dx, fs, rfl, ha, q⟩ := h
  obtain ⟨u, rfl, ru⟩ := vals1 r
  obtain rfl : u = Value.ref a := ru
  obtain ⟨mA, J, _⟩ := ins_get I.hok ha
  obtain ⟨od, J, _⟩ := J.look
  refine PySem.W.kso_call hr.in1.in1.units0 I.kIn J hm.at_ hm.fn ?_
  refine wpAny_mono (run_A F hr.in1.in1 I.env0.in1.in1 hb hx I (show Vals [V.ref a] [Value.ref a] from .cons rfl .nil) q) (fun r s' z => ?_) fun _ _ e => e
  obtain ⟨v, H', I', rv, ⟨z, rfl⟩, q'⟩ := z
  obtain ⟨t, rfl⟩ := rv
  exact ⟨.str z, H', I', ⟨t, rfl⟩, q'⟩
/-- o.m(), m a def with a star parameter -/
theorem pe_methR0 {o : Expr} {ta : TE} {m : Str} {apos pos : Pos} {pl : Sem Bool} (he : PE X o ta) (c : Cls X.K C) (hm : Meth X.K C m f) (F : FnR X.prog X.w X.K X.mg X.base CX k f sp) (hr : Room k X.A) (hx : Passes CX X E)
    (ht : eval (.Call (.Attribute o m apos) [] [] pos) X.env = (do
      let ov ← eval o X.env
      standAt apos.atName
      let (f, first) ← holding [ov] (getMethod ov m pl)
      callWith pos f first (backTo pos (starEach [] X.env)) (backToKw pos (keywordEach [] X.env))) := by rfl) :
    PE X (.Call (.Attribute o m apos) [] [] pos) (tMethR C m sp E ta tNil) := by
  refine ⟨fun pins s σ H Q I h => ?_⟩
  refine PySem.W.methodCall_KW (pl := pl) (thn (he.run pins s σ H _ I h) fun u s1 ⟨x, H1, I1, rx, a, dx, fs, ex, ea, l, q⟩ => ?_) ht
  subst ex
  obtain rfl : u = Value.ref a := rx
  refine getmeth_ok I1 ea c hm l ?_
  exact PySem.W.callWith_K0 (first := [.ref a]) I1.kIn hm.kp (wpAny_call (run_fnR (us := [.ref a]) (vs := [.ref a]) F hr hx I1 (.cons rfl .nil) q))
/-- a def f(a, *r) by its facts -/
theorem fun_star {P : Program} {w : World} {K : PySem.W.Frag} {mg : Str → Option Value} {base : Heap} {f : Addr} {x qual pa pv : Str} {st : Stmt} {fd : FuncData} {N : List Str} {sp : Sp} (F : Fun K x qual st f fd) (S : FnScope N [pa, pv] (defScope st))
    (hb : ∀ (u : Value) (rest : List Value), rest.length ≤ 5 → bindArgs fd ⟨u :: rest, []⟩ = (newTuple rest >>= fun t => pure [(pa, u), (pv, t)]))
    (hbd : ∀ (cdv : Value) (A : Around) (outer : List Env) (s : Shared) (H : Hp) (vs : List V) (Q : VK), Room k (A.deeper (envOfC qual (defScope st) s.heap.objs.size f cdv)) → sp vs H Q E0 →
      ∃ t, PSs (cxOf CX0 P w K mg base N qual (defScope st) f cdv A outer s H E0).nox (defBody st) t ∧ t { nx := fun _ H' => Q .non H', rt := Q } (start N vs) H) :
    FnR P w K mg base CX0 (k + 1) f (fun vs H Q _ => ∃ v rest, vs = v :: rest ∧ rest.length ≤ 5 ∧ ∀ p, H p = none → sp [v, .ref p] (upd H p (.tup rest)) Q E0) := by
  obtain ⟨oc, od, kV, doc, pm, an, cdv, ct, osl, rfl, lk, hc⟩ := F.ex
  intro A outer s H us vs Q E hr e0 r h
  refine fn_ofV (CX := CX0) (sp := fun vs H Q E => E = E0 ∧ sp vs H Q E0) lk hc S (nmax := 5) (by decide) hb (fun _ _ _ _ _ _ _ _ _ _ _ _ z => z) (fun A outer s H vs Q E hr h => ?_) A outer s H us vs Q E0 hr e0 r ?_
  · obtain ⟨rfl, h⟩ := h
    obtain ⟨t, h, q⟩ := hbd cdv A outer s H vs Q hr h
    exact ⟨t, h.nox, q⟩
  · obtain ⟨v, rest, e, hl, q⟩ := h
    exact ⟨v, rest, e, hl, fun p hp => ⟨rfl, q p hp⟩⟩
end
end MH
/-! More own special methods: len, bool, repr, [], in, == and != with values of other kinds, f-strings, classmethods. -/
namespace MH
open PySem PySem.Spec PyProof.Rows L2

section
variable {prog : Program} {w : World} {A : Around} {E : Value → Shared → Prop} {s : Shared} {K : PySem.W.Frag} {x C f L : Addr} {h₀ : Heap} {m : Str → Option Value} {ox : Obj} {od : Option Obj}
open PySem.W in
/-- truth by an own __len__ -/
theorem truthy_len {Q : Bool → Shared → Prop} (F₀ : Fr h₀ L s.heap m) (X₀ : K.In h₀) (I : InstAt s.heap x ox C od) (hs : findIn K (.ref C) "__bool__" = some none) (hl : findIn K (.ref C) "__len__" = some (some (.ref f))) (hf : isFn K (.ref f) = true)
    (h : wpAny (model prog w) A.in1 (call (.ref f) [.ref x]) (fun v s' => ∃ n t, v = .int n t ∧ 0 ≤ n ∧ n < 2 ^ 63 ∧ Q (n != 0) { s' with toks := s'.toks + 1 }) E s) : wpAny (model prog w) A (truthy (.ref x)) Q E s := by
  have X := X₀.keeps F₀.keep
  unfold truthy
  refine wpAny_bind (m := callSpecial? (.ref x) (Str.ofString "__bool__")) (wpAny_bind (wpAny_bind (I.type.here ((looks_findIn X hs).here (wpAny_pure ?_)))))
  refine wpAny_bind (wpAny_bind (I.type.here ((looks_findIn X hl).here ?_)))
  show wpAny _ _ (if (some (Value.ref f)).isNone = true then _ else _) _ _ _
  rw [if_neg (by simp)]
  have key : wpAny (model prog w) A (runValue (.builtin "len" ⟨[.ref x], []⟩)) (fun r s' => ∃ n t, r = .int n t ∧ Q (n != 0) s') E s := by
    refine wpAny_runValue (codeAny_builtin entry_len ?_)
    rw [show A.under (.builtin "len" ⟨[.ref x], []⟩) = A.in1 from Around.under_plainId (by decide +kernel) _]
    unfold Builtin.«len»
    refine wpAny_bind (m := oneArg "len" _) (wpAny_pure ?_)
    refine wpAny_bind (m := callSpecial? (.ref x) (Str.ofString "__len__")) (special_fn X I hl (beq_iff_eq.mp hf) (wpAny_mono h (fun r s' hr => ?_) fun _ _ y => y))
    obtain ⟨n, t, rfl, h0, h1, hq⟩ := hr
    refine wpAny_bind (wpAny_holding (wpAny_pure ?_))
    refine wpAny_bind (wpAny_letGo ?_)
    show wpAny _ _ (if n < 0 then _ else _) _ _ _
    rw [if_neg (by omega)]
    show wpAny _ _ (if n ≥ 2 ^ 63 then _ else _) _ _ _
    rw [if_neg (by omega)]
    exact wpAny_bind (wpAny_mkInt (wpAny_pure ⟨n, _, rfl, hq⟩))
  refine wpAny_bind (wpAny_mono key (fun r s' hr => ?_) fun _ _ y => y)
  obtain ⟨n, t, rfl, hq⟩ := hr
  exact wpAny_pure hq
theorem bool_newM {v : Value} : MeetsIn prog w (Builtin.«bool.__new__» ⟨[.type "bool", v], []⟩) (fun A R s => wpAny (model prog w) A.in1 (truthy v) (fun b s' => R (.ok (.ret (.bool b))) s') (fun e s' => R (.error e) s') s) :=
  .of_wp fun A R s h => by
    obtain ⟨hp, g, d, tk, os⟩ := s
    have f1 := F.conv_sub_bool
    repeat (any_goals (first | assumption | (refine wpAny_bind (m := truthy _) (wpAny_mono h (fun b s' z => ?_) fun _ _ z => z)) | wp_step))
    all_goals first | exact ⟨_, rfl, z⟩ | exact z | skip
theorem call_bool_of {v : Value} {Q : Value → Shared → Prop} (h : wpAny (model prog w) A.in1.in1 (truthy v) (fun b s' => Q (.bool b) s') E s) : wpAny (model prog w) A (call (.type "bool") [v]) Q E s :=
  callType_newIn F.called_bool F.newNe_bool (F.typeCall_bool_1 v) (F.newCall_bool_1 v) (fun obj => F.args_object_init_2 obj v) F.entry_bool_new bool_newM (wpAny_mono h (fun b s' z => ⟨rfl, z⟩) fun _ _ z => z)
open PySem.W in
theorem sub_ty {T : String} {l : List Value} (e : fastBuiltinMro T = some l) (h : l.all (fun v => match v with | .type _ => true | _ => false) = true) : subIn K (.type T) (.ref C) = some false := by
  show (fastBuiltinMro T).map (·.contains (.ref C)) = some false
  rw [e]
  show some (l.contains (Value.ref C)) = some false
  refine congrArg some ?_
  cases q : l.contains (Value.ref C) with
  | false => rfl
  | true =>
    have m := List.contains_iff_mem.mp q
    have z := List.all_eq_true.mp h _ m
    cases z
open PySem.W in
theorem notFirst_ty {T : String} (e : subIn K (.type T) (.ref C) = some false) : notFirst K C (.type T) = true := by
  unfold notFirst
  rw [e]
  simp
open PySem.W in
theorem kit_own {T : String} (c : Cls K C) (ht : typeIn K (.ref C) = some (.type "type")) (e : subIn K (.type T) (.ref C) = some false) : kitOne K (.type T) (.ref C) = some false := by
  obtain ⟨cd, hc, _⟩ := any_some c.hd
  unfold kitOne
  rw [if_neg (by simp)]
  unfold kitCls
  simp only [hc, ht]
  simpa using e
end

section
variable {X : Cx} {CX : CXT} {k : Nat} {C f : Addr} {fd : FuncData} {ps : List Str} {sp : Sp} {E : XK}
/-- len(o) -/
def rLenO (C : Addr) (sp : Sp) (E : XK) : List V → Hp → VK → Prop := fun xs H Q => ∃ a dx fs, xs = [.ref a] ∧ H a = some (.ins C dx fs) ∧ sp [.ref a] H (fun v H' => (∃ n : Int, v = .int n ∧ 0 ≤ n ∧ n < 2 ^ 63) ∧ Q v H') E
theorem call_lenO (hm : Meth X.K C "__len__" f) (F : FnOk X.prog X.w X.K X.mg X.base CX k f fd ps sp) (hr : Room (k + 1) X.A) (hb : Binds X.K fd ps []) (hx : Passes CX X E) : CallR X (.builtin "len") (rLenO C sp E) := by
  intro pins s σ H xs us Q I r h
  obtain ⟨a, dx, fs, rfl, ha, q⟩ := h
  obtain ⟨u, rfl, ru⟩ := vals1 r
  obtain rfl : u = Value.ref a := ru
  obtain ⟨mA, J, _⟩ := ins_get I.hok ha
  obtain ⟨od, J, _⟩ := J.look
  obtain ⟨m, hF⟩ := I.fr
  refine PySem.W.len_K hF I.ok.mod.kin J hm.at_ hm.fn ?_
  refine wpAny_mono (run_A F hr.in1 I.env0.in1 hb hx I (show Vals [V.ref a] [Value.ref a] from .cons rfl .nil) q) (fun r s' z => ?_) fun _ _ e => e
  obtain ⟨v, H', I', rv, ⟨n, rfl, h0, h1⟩, q'⟩ := z
  obtain ⟨t, rfl⟩ := rv
  exact ⟨⟨h0, h1⟩, .int n, H', I'.tok _, ⟨_, rfl⟩, q'⟩
/-- bool(o), by len -/
def rBoolO (C : Addr) (sp : Sp) (E : XK) : List V → Hp → VK → Prop := fun xs H Q => ∃ a dx fs, xs = [.ref a] ∧ H a = some (.ins C dx fs) ∧ sp [.ref a] H (fun v H' => ∃ n : Int, v = .int n ∧ 0 ≤ n ∧ n < 2 ^ 63 ∧ Q (.bl (n != 0)) H') E
theorem call_boolO (hm : Meth X.K C "__len__" f) (hs : PySem.W.findIn X.K (.ref C) "__bool__" = some none) (F : FnOk X.prog X.w X.K X.mg X.base CX k f fd ps sp) (hr : Room (k + 3) X.A) (hb : Binds X.K fd ps []) (hx : Passes CX X E) : CallR X (.type "bool") (rBoolO C sp E) := by
  intro pins s σ H xs us Q I r h
  obtain ⟨a, dx, fs, rfl, ha, q⟩ := h
  obtain ⟨u, rfl, ru⟩ := vals1 r
  obtain rfl : u = Value.ref a := ru
  obtain ⟨mA, J, _⟩ := ins_get I.hok ha
  obtain ⟨od, J, _⟩ := J.look
  obtain ⟨m, hF⟩ := I.fr
  refine call_bool_of (truthy_len hF I.ok.mod.kin J hs hm.at_ hm.fn ?_)
  refine wpAny_mono (run_A F hr.in1.in1.in1 I.env0.in1.in1.in1 hb hx I (show Vals [V.ref a] [Value.ref a] from .cons rfl .nil) q) (fun r s' z => ?_) fun _ _ e => e
  obtain ⟨v, H', I', rv, n, rfl, h0, h1, q'⟩ := z
  obtain ⟨t, rfl⟩ := rv
  exact ⟨n, t, rfl, h0, h1, .bl (n != 0), H', I'.tok _, rfl, q'⟩
/-- repr(o) -/
theorem call_reprO (hm : Meth X.K C "__repr__" f) (F : FnOk X.prog X.w X.K X.mg X.base CX k f fd ps sp) (hr : Room (k + 1) X.A) (hb : Binds X.K fd ps []) (hx : Passes CX X E) : CallR X (.builtin "repr") (rStrO C sp E) := by
  intro pins s σ H xs us Q I r h
  obtain ⟨a, dx, fs, rfl, ha, q⟩ := h
  obtain ⟨u, rfl, ru⟩ := vals1 r
  obtain rfl : u = Value.ref a := ru
  obtain ⟨mA, J, _⟩ := ins_get I.hok ha
  obtain ⟨od, J, _⟩ := J.look
  obtain ⟨m, hF⟩ := I.fr
  refine PySem.W.repr_K hr.in1.units0 hF I.ok.mod.kin J hm.at_ hm.fn ?_
  refine wpAny_mono (run_A F hr.in1 I.env0.in1 hb hx I (show Vals [V.ref a] [Value.ref a] from .cons rfl .nil) q) (fun r s' z => ?_) fun _ _ e => e
  obtain ⟨v, H', I', rv, ⟨z, rfl⟩, q'⟩ := z
  obtain ⟨t, rfl⟩ := rv
  exact ⟨.str z, H', I', ⟨t, rfl⟩, q'⟩
/-- o[e] -/
def tItO (C : Addr) (sp : Sp) (E : XK) (ta tb : TE) : TE := fun σ H Q => ta σ H fun x H1 => tb σ H1 fun y H2 => ∃ a dx fs, x = .ref a ∧ H2 a = some (.ins C dx fs) ∧ sp [.ref a, y] H2 Q E
theorem pe_itO {a b : Expr} {ta tb : TE} {pos : Pos} (hm : Meth X.K C "__getitem__" f) (hfi : PySem.W.fnIn X.K f = true) (F : FnOk X.prog X.w X.K X.mg X.base CX k f fd ps sp) (hr : Room (k + 1) X.A) (hb : Binds X.K fd ps []) (hx : Passes CX X E)
    (he : PE X a ta) (hi : PE X b tb) (hsl : ∀ o i, subscripted b true o i = runValue (.builtin "lifetime.subscript" ⟨[o, i], []⟩)) : PE X (.Subscript a b pos) (tItO C sp E ta tb) := by
  refine ⟨fun pins s σ H Q I h => ?_⟩
  refine Subscript_ (binT he hi I h fun v u s2 x y H2 I2 rx ry q => ?_)
  obtain ⟨o, dx, fs, rfl, ha, q⟩ := q
  obtain rfl : v = Value.ref o := rx
  obtain ⟨mA, J, _⟩ := ins_get I2.hok ha
  obtain ⟨od, J, _⟩ := J.look
  obtain ⟨m, hF⟩ := I2.fr
  exact PySem.W.sub_K hF I2.ok.mod.kin J hm.at_ hfi hm.fn (run_A F hr.in1 I2.env0.in1 hb hx I2 (show Vals [V.ref o, y] [Value.ref o, u] from .cons rfl (.cons ry .nil)) q) (hsl _ _)
/-- v in o -/
def rInO (C : Addr) (sp : Sp) (E : XK) : R2 := fun x y H Q => ∃ a dx fs, y = .ref a ∧ H a = some (.ins C dx fs) ∧ sp [.ref a, x] H (fun v H' => (∃ k, v = .bl k) ∧ Q v H') E
theorem op_inO (hm : Meth X.K C "__contains__" f) (F : FnOk X.prog X.w X.K X.mg X.base CX k f fd ps sp) (hr : Room k X.A) (hb : Binds X.K fd ps []) (hx : Passes CX X E) : OpR X (compareOp .In) (rInO C sp E) := by
  intro pins s σ H x y v u Q I rx ry h
  obtain ⟨a, dx, fs, rfl, ha, q⟩ := h
  obtain rfl : u = Value.ref a := ry
  obtain ⟨mA, J, _⟩ := ins_get I.hok ha
  obtain ⟨od, J, _⟩ := J.look
  obtain ⟨m, hF⟩ := I.fr
  refine PySem.W.in_K hF I.ok.mod.kin J hm.at_ hm.fn ?_
  refine wpAny_mono (run_A F hr I.env0 hb hx I (show Vals [V.ref a, x] [Value.ref a, v] from .cons rfl (.cons rx .nil)) q) (fun r s' z => ?_) fun _ _ e => e
  obtain ⟨w, H', I', rw', ⟨k, rfl⟩, q'⟩ := z
  obtain rfl : r = Value.bool k := rw'
  exact wpAny_truthy_bool ⟨.bl k, H', I', rfl, q'⟩
/-- o == v, v of a known type -/
def rOX (C : Addr) (K : PySem.W.Frag) (sp : Sp) (E : XK) : R2 := fun x y H Q => ∃ a dx fs t, x = .ref a ∧ H a = some (.ins C dx fs) ∧ TyX K H y t ∧ PySem.W.notFirst K C t = true ∧ sp [.ref a, y] H (fun v H' => (∃ k, v = .bl k) ∧ Q v H') E
theorem op_eqX (hm : Meth X.K C "__eq__" f) (F : FnOk X.prog X.w X.K X.mg X.base CX k f fd ps sp) (hr : Room k X.A) (hb : Binds X.K fd ps []) (hx : Passes CX X E) : OpR X (compareOp .Eq) (rOX C X.K sp E) := by
  intro pins s σ H x y v u Q I rx ry h
  obtain ⟨a, dx, fs, t, rfl, ha, ty, hn, q⟩ := h
  obtain rfl : v = Value.ref a := rx
  obtain ⟨mA, J, _⟩ := ins_get I.hok ha
  obtain ⟨od, J, _⟩ := J.look
  obtain ⟨m, hF⟩ := I.fr
  obtain ⟨P, Z, p, _⟩ := kit_of I ry ty
  refine PySem.W.cmp_K (op := .Eq) (tb := t) hr.units0 hF I.ok.mod.kin J (Z.ty _ _ I.kIn p) hn hm.at_ hm.fn ?_
  refine wpAny_mono (run_A F hr I.env0 hb hx I (show Vals [V.ref a, y] [Value.ref a, u] from .cons rfl (.cons ry .nil)) q) (fun r s' z => ?_) fun _ _ e => e
  obtain ⟨w, H', I', rv, ⟨k, rfl⟩, q'⟩ := z
  obtain rfl : r = Value.bool k := rv
  exact ⟨.bl k, H', I', rfl, q'⟩
/-- o != v -/
def rNX (C : Addr) (K : PySem.W.Frag) (sp : Sp) (E : XK) : R2 := fun x y H Q => ∃ a dx fs t, x = .ref a ∧ H a = some (.ins C dx fs) ∧ TyX K H y t ∧ PySem.W.notFirst K C t = true ∧ sp [.ref a, y] H (fun v H' => ∃ k, v = .bl k ∧ Q (.bl (!k)) H') E
theorem op_neX (hm : Meth X.K C "__eq__" f) (hne : PySem.W.findIn X.K (.ref C) "__ne__" = some (some (.builtin "object.__ne__"))) (ho : PySem.W.mroIn X.K C (.type "object") = some true)
    (F : FnOk X.prog X.w X.K X.mg X.base CX k f fd ps sp) (hr : Room (k + 1) X.A) (hb : Binds X.K fd ps []) (hx : Passes CX X E) : OpR X (compareOp .NotEq) (rNX C X.K sp E) := by
  intro pins s σ H x y v u Q I rx ry h
  obtain ⟨a, dx, fs, t, rfl, ha, ty, hn, q⟩ := h
  obtain rfl : v = Value.ref a := rx
  obtain ⟨mA, J, _⟩ := ins_get I.hok ha
  obtain ⟨od, J, _⟩ := J.look
  obtain ⟨m, hF⟩ := I.fr
  obtain ⟨P, Z, p, _⟩ := kit_of I ry ty
  refine ne_K (tb := t) hr.units0 hr.in1.units0 hF I.ok.mod.kin J (Z.ty _ _ I.kIn p) hn hne ho hm.at_ hm.fn ?_
  refine wpAny_mono (run_A F hr.in1 I.env0.in1 hb hx I (show Vals [V.ref a, y] [Value.ref a, u] from .cons rfl (.cons ry .nil)) q) (fun r s' z => ?_) fun _ _ e => e
  obtain ⟨w, H', I', rv, k, rfl, q'⟩ := z
  obtain rfl : r = Value.bool k := rv
  exact ⟨k, rfl, .bl (!k), H', I', rfl, q'⟩
/-- {o} in an f-string -/
def tFmtO (C : Addr) (sp : Sp) (E : XK) (te : TE) : TE := fun σ H Q => te σ H fun x H1 => ∃ a dx fs, x = .ref a ∧ H1 a = some (.ins C dx fs) ∧ sp [.ref a] H1 (fun v H' => (∃ z, v = .str z) ∧ Q v H') E
theorem pe_fmtO {e : Expr} {te : TE} {pos : Pos} (hm : Meth X.K C "__str__" f) (hfm : PySem.W.findIn X.K (.ref C) "__format__" = some (some (.builtin "object.__format__"))) (ho : PySem.W.mroIn X.K C (.type "object") = some true)
    (F : FnOk X.prog X.w X.K X.mg X.base CX k f fd ps sp) (hr : Room (k + 1) X.A) (hb : Binds X.K fd ps []) (hx : Passes CX X E) (he : PE X e te) : PE X (.FormattedValue e (-1) none pos) (tFmtO C sp E te) := by
  refine ⟨fun pins s σ H Q I h => ?_⟩
  refine wpAny_FormattedValue_plain (thn (he.run pins s σ H _ I h) fun v s1 ⟨x, H1, I1, r1, a, dx, fs, ex, ha, q⟩ => ?_)
  subst ex
  obtain rfl : v = Value.ref a := r1
  obtain ⟨mA, J, _⟩ := ins_get I1.hok ha
  obtain ⟨od, J, _⟩ := J.look
  have I2 := I1.tok (s1.toks + 1)
  refine PySem.W.kfo_fieldS hr.in1.units0 I1.kIn J hfm ho hm.at_ hm.fn ?_
  refine wpAny_mono (run_A F hr.in1 I2.env0.in1 hb (fun pins σ H s e s' I z => hx pins σ H s e s' I z) I2 (show Vals [V.ref a] [Value.ref a] from .cons rfl .nil) q) (fun r s' z => ?_) fun _ _ e => e
  obtain ⟨v, H', I', rv, ⟨z, rfl⟩, q'⟩ := z
  obtain ⟨t, rfl⟩ := rv
  exact ⟨.str z, H', I', ⟨t, rfl⟩, q'⟩
/-- c(..), c a local name that holds the class -/
def tMakeV (C : Addr) (sp : Sp) (E : XK) (tf : TE) (t : TA) : TE := fun σ H Q => tf σ H fun x H0 => x = .ref C ∧ tMake C sp [] E t σ H0 Q
theorem pe_makeV {x : Str} {p pos : Pos} {e : Expr} {es : List Expr} {tf : TE} {t : TA} (M : Mk X.K C f) (F : FnOk X.prog X.w X.K X.mg X.base CX k f fd ps sp) (hr : Room (k + 1) X.A) (hv : PE X (.Name x p) tf) (hb : Binds X.K fd ps []) (hx : Passes CX X E)
    (ha : PA X (e :: es) t) (he : starEach (e :: es) X.env = (false, eval e X.env) :: starEach es X.env := by rfl) (hpl : (backTo pos (starEach es X.env)).any (·.1) = false := by rfl) : PE X (.Call (.Name x p) (e :: es) [] pos) (tMakeV C sp E tf t) := by
  refine ⟨fun pins s σ H Q I h => ?_⟩
  refine wpAny_Call_Name_kw (thn (hv.run pins s σ H _ I h) fun f s0 ⟨v, H0, I0, r0, ev, q0⟩ => ?_)
  subst ev
  obtain rfl : f = Value.ref C := r0
  refine PySem.W.callWith_K (h₀ := X.base) I.ok.mod.kin M.kp (thn (ha.run pos pins s0 σ H0 _ I0 q0) fun us s1 ⟨vs, H1, I1, r, q⟩ => ⟨I1.kIn, ?_⟩) he hpl
  exact run_make M F hr hb .nil hx I1 r q
theorem FnOk.toR {P : Program} {w : World} {K : PySem.W.Frag} {mg : Str → Option Value} {base : Heap} (F : FnOk P w K mg base CX k f fd ps sp) (hB : Binds K fd ps []) : FnR P w K mg base CX k f sp := fun A outer s H us vs Q E hr e0 r hs => by
  have KX : K.In s.heap := e0.mod.kin.keeps fun b o e => (e0.bs b o e).1
  have hl : (us ++ []).length = ps.length := by rw [List.append_nil, ← r.length, F.len _ _ _ _ hs]
  have hb2 := hB s us KX hl
  rw [List.append_nil] at hb2
  exact F.run A outer s H ⟨us, []⟩ us vs Q E hr e0 hb2 r hs
/-- c.m(k = v), m a classmethod -/
def tCMethK (C : Addr) (n : Nat) (sp : Sp) (gV : List V → List V → List V) (E : XK) (ta : TE) (tk : TA) : TE := fun σ H Q => ta σ H fun x H1 => x = .ref C ∧ tk σ H1 fun zs H2 => zs.length = n ∧ sp (gV [.ref C] zs) H2 Q E
theorem pe_cmethK {p : Addr} {mc : Value} {ks : List Str} {o : Expr} {m : Str} {apos pos : Pos} {kws : List Keyword} {ta : TE} {tk : TA} {g : List Value → List Value → List Value} {gV : List V → List V → List V} {pl : Sem Bool} (he : PE X o ta) (r : ClX.CRead X.K C mc) (c : ClX.CMet X.K C mc m p f)
    (F : FnOk X.prog X.w X.K X.mg X.base CX k f fd ps sp) (hr : Room k X.A) (hb : KBn X.K fd ps 1 ks g gV) (hx : Passes CX X E) (hkw : PK X kws tk)
    (hall : (backToKw pos (keywordEach kws X.env)).all (·.1.isSome) = true := by rfl) (hks : (backToKw pos (keywordEach kws X.env)).filterMap (·.1) = ks := by rfl)
    (hpl : ((backTo pos (starEach [] X.env)).any (·.1) || (backToKw pos (keywordEach kws X.env)).any (·.1.isNone)) = false := by rfl)
    (ht : eval (.Call (.Attribute o m apos) [] kws pos) X.env = (do
      let ov ← eval o X.env
      standAt apos.atName
      let (f, first) ← holding [ov] (getMethod ov m pl)
      callWith pos f first (backTo pos (starEach [] X.env)) (backToKw pos (keywordEach kws X.env))) := by rfl) :
    PE X (.Call (.Attribute o m apos) [] kws pos) (tCMethK C ks.length sp gV E ta tk) := by
  refine ⟨fun pins s σ H Q I h => ?_⟩
  refine PySem.W.methodCall_KW (pl := pl) (thn (he.run pins s σ H _ I h) fun u s1 ⟨x, H1, I1, rx, ex, q⟩ => ?_) ht
  subst ex
  obtain rfl : u = Value.ref C := rx
  refine ClX.getmethcm_ok I1 r c fun s2 I2 => ?_
  refine PySem.W.callWith_of (P := PySem.W.MethP X.K s1.heap.objs.size f (.ref C)) hpl (PySem.W.keeps_M c.fi) (PyProof.Rows.evalArgs_kw2_nil hall ?_)
  refine thn (hkw.run pos _ s2 σ H1 _ I2 q) fun ws s3 ⟨zs, H2, I3, rz, hz, q2⟩ => ⟨⟨ClX.pin_at I3, I3.kIn⟩, ?_⟩
  rw [hks]
  have r1 : Vals [V.ref C] [Value.ref C] := .cons rfl .nil
  have r2 := hb.rel r1 rz
  have z : wpAny (model X.prog X.w) X.A (call (.ref s1.heap.objs.size) ([] ++ []) (ks.zip ws)) (EP X ((s1.heap.objs.size, PySem.W.methodObj (.ref f) (.ref C)) :: pins) σ Q) X.xe s3 := by
    refine wpAny_call (PySem.W.method_call (ClX.pin_at I3) (codeAny_mono (F.run X.A X.stack s3 H2 ⟨[.ref C], ks.zip ws⟩ (g [.ref C] ws) (gV [.ref C] zs) Q E hr I3.env0 (hb.to s3 [.ref C] ws I3.kIn rfl (rz.length.symm.trans hz)) r2 q2) fun r s' hq => ?_))
    match r, hq with
    | .ok (.ret u), hq => exact I3.after hq
    | .ok .next, hq => exact False.elim hq
    | .ok .brk, hq => exact False.elim hq
    | .ok .cont, hq => exact False.elim hq
    | .error e, hq => exact hx _ σ H2 s3 e s' I3 hq
  exact thn z fun _ _ y => ClX.unpinE y
/-- repr of a truth -/
def rReprB : List V → Hp → VK → Prop := fun xs H Q => ∃ b, xs = [.bl b] ∧ Q (.str (if b then "True" else "False")) H
theorem call_reprB : CallR X (.builtin "repr") rReprB := by
  intro pins s σ H xs us Q I r h
  obtain ⟨b, rfl, q⟩ := h
  obtain ⟨u, rfl, r1⟩ := vals1 r
  obtain rfl : u = Value.bool b := r1
  exact PySem.P.repr_of_bool ⟨.str _, H, I.tok _, ⟨_, rfl⟩, q⟩
end
end MH
/-! try .. except (A, B, C) as n: the clause's classes in a tuple. -/
namespace MH
open PySem PySem.Spec PyProof.Rows L2
/-- a flight stays one where only new objects come -/
theorem flying_more {B : Heap} {l : List Env} {a : Addr} {Z : Obj → Prop} {g g' : Heap} (k : ∀ b o, g.get? b = some o → g'.get? b = some o) (x : HandSPX.FlyingZ B l a Z g) : HandSPX.FlyingZ B l a Z g' := by
  obtain ⟨x1, x2, x3, oe, vs, T, oT, ts, y1, y2, y3, y4, y5, y6, y7, y8⟩ := x
  exact ⟨fun b o e => k _ _ (x1 b o e), x2, Heap.FunFrames.of_keeps (fun b o e _ => ⟨o, k _ _ e, rfl⟩) x3, oe, vs, T, oT, ts, k _ _ y1, y2, y3, y4, y5, y6, k _ _ y7, y8⟩
theorem slots_more {g g1 g2 : Heap} (u : g.UpToSlots g1) (k : ∀ b o, g1.get? b = some o → g2.get? b = some o) : g.UpToSlots g2 := fun b o e hd => by
  obtain ⟨sl, q⟩ := u b o e hd
  exact ⟨sl, k _ _ q⟩
/-- what such a clause wishes of an exception of the body -/
def wAsT (K : PySem.W.Frag) (cs : List Value) (i : Nat) (ts : Addr → Value → Option Addr → TS) (Wout : WX) (D : Ends) : WX := fun cls d σ H =>
  ∃ b, PySem.W.exmAny K cls cs = some b ∧
    (b = true → ∀ a, H a = none → ts a cls d { nx := fun σ' H' => D.nx (σ'.set i none) H', rt := D.rt, bk := fun σ' H' => D.bk (σ'.set i none) H', ct := fun σ' H' => D.ct (σ'.set i none) H' } (σ.set i (some (.ref a))) H) ∧ (b = false → Wout cls d σ H)
section
variable {X : Cx} {x1 x2 x3 n : Str} {c1 c2 c3 : Value} {i kt : Nat} {body suite : List Stmt} {b₀ : Stmt} {p1 p2 p3 pt pos pos' : Pos} {tb : WX → TS} {ts : Addr → Value → Option Addr → TS} {Wout : WX}
theorem ps_try_asT (stk : X.stack = X.env :: X.outer) (frm : X.env.frame = some X.env.locals) (nd : X.N.Nodup) (slot : X.N[i]? = some n) (loc : X.env.kindOf n = some .local) (n1 : Names X x1 c1) (n2 : Names X x2 c2) (n3 : Names X x3 c3) (tk : Takes X Wout)
    (inBody : ∀ (W : WX) (pn : List (Addr × Obj)) (xe : Value → Shared → Prop), Takes (X.tr pn xe) W → PassesOwn (model X.prog X.w) X.A X.env xe → PSs (X.tr pn xe) body (tb W))
    (inSuite : ∀ (a : Addr) (oe : Obj) (cls : Value) (d : Option Addr) (pn : List (Addr × Obj)), Zc cls d oe → (∃ vs, oe.data = .fields vs) → PSs (X.suite a ((a, oe) :: pn)) (b₀ :: suite) (ts a cls d)) :
    PS X (.Try body [.ExceptHandler (some (.Tuple [.Name x1 p1, .Name x2 p2, .Name x3 p3] kt pt)) (some n) (b₀ :: suite) pos'] [] [] pos) (fun D σ H => tb (wAsT X.K [c1, c2, c3] i ts Wout D) D σ H) := by
  refine ⟨fun pins s σ H D I h => ?_⟩
  have okI := I.ok
  have frs0 : X.A.frames = some (X.env :: X.outer) := by rw [okI.frames, stk]
  have vis : Loc X.env.scope n := .inl loc
  refine wpAny_Try_except ?_
  refine wpAny_mono ((inBody (wAsT X.K [c1, c2, c3] i ts Wout D) (X.pn ++ pins)
    (fun e s₁ => wpAny (model X.prog X.w) X.A (noteFrame e X.env) (fun _ s₂ => wpAny (model X.prog X.w) X.A (setFlight e none)
      (fun _ s₃ => wpAny (model X.prog X.w) X.A (handleBy e X.env [.ExceptHandler (some (.Tuple [.Name x1 p1, .Name x2 p2, .Name x3 p3] kt pt)) (some n) (b₀ :: suite) pos']) (SP X pins D) X.xe s₃) X.xe s₂) X.xe s₁)
    (fun u s' air => ?_) PassesOwn.looking).run [] s σ H D (I.toTry _) h) (fun f s1 q => ?_) (fun _ _ z => z)
  · obtain ⟨a, B, sI, pins', σ', H', cls, d, rfl, Jt, nb, up, sky, fresh, os, ag, b, hb1, yes, no⟩ := air
    have J : Inv X pins σ' H' sI := Jt.ofTry okI
    have sky1 : Sky B (X.env :: X.outer) a (Zc cls d) X.env.locals s'.heap := by rw [← stk]; exact sky
    show wpAny (model X.prog X.w) X.A (noteFrame (.ref a) X.env) _ _ _
    refine Sky.land Zc.steady frs0 frm sky1 fun g3 fl3 up3 => ?_
    have J3 : Inv X pins σ' H' { s' with heap := g3 } := J.landed nb fl3.1 (up.trans up3) os ag
    obtain ⟨oe3, vs3, at3, z3, dat3⟩ := fl3.there
    have apart : ∀ {g : Heap} {o : Obj} {vs : Array Value}, g.FunFrames B (X.env :: X.outer) → g.get? a = some o → o.data = .fields vs → a ∉ frs (X.env :: X.outer) := fun {g o vs} ff e dd hm => by
      obtain ⟨_, o', e', notf⟩ := ff.mem hm
      rw [e] at e'
      cases e'
      exact notf _ dd
    have out3 := apart fl3.2.2.1 at3 dat3
    have nl : a ≠ X.env.locals := fun z => out3 (List.mem_filterMap.mpr ⟨X.env, List.mem_cons_self, by rw [frm, z]⟩)
    have nf : a ∉ X.fs := fun hm => by
      obtain ⟨e, he, q⟩ := List.mem_filterMap.mp hm
      exact out3 (List.mem_filterMap.mpr ⟨e, List.mem_cons_of_mem _ he, q⟩)
    have S3 := J3.suite at3 dat3 fresh nl nf
    refine wpAny_handleBy_cons (codeAny_handlers_test ?_) (by intro q; cases q)
    have one : ∀ {x : Str} {c : Value} {p : Pos} {Q : Value → Shared → Prop} {E : Value → Shared → Prop}, Names X x c → Q c { s' with heap := g3 } → wpAny (model X.prog X.w) (X.A.mark (some (.ref a))) (eval (.Name x p) X.env) Q E { s' with heap := g3 } := fun {x c p Q E} nm q => by
      obtain ⟨hg, hd, hm | ⟨hm, hv, nn⟩⟩ := nm
      · exact ld_glob (X := X.suite a ((a, oe3) :: (X.pn ++ pins))) S3 hg hm q hd
      · exact ld_blt (X := X.suite a ((a, oe3) :: (X.pn ++ pins))) S3 hg hm hv q nn hd
    refine Tuple_ (Calls.spliced_cons (one n1 (Calls.spliced_cons (one n2 (Calls.spliced_cons (one n3 (Calls.spliced_nil ?_)))))))
    refine wpAny_newObj_type ?_ (by show 3 ≤ sizeLine; decide)
    have more : ∀ b o, g3.get? b = some o → (g3.push ({ cls := .type "tuple", data := .seq [c1, c2, c3].toArray } : Obj)).get? b = some o := fun b o e => Heap.get?_push_of_some _ e
    have tupAt : (g3.push ({ cls := .type "tuple", data := .seq [c1, c2, c3].toArray } : Obj)).get? g3.objs.size = some { cls := .type "tuple", data := .seq [c1, c2, c3].toArray } := Heap.get?_push_size _ rfl
    have fl5 := flying_more more fl3
    have up5 : s'.heap.UpToSlots (g3.push ({ cls := .type "tuple", data := .seq [c1, c2, c3].toArray } : Obj)) := slots_more up3 more
    have at5 := more _ _ at3
    generalize g3.push ({ cls := .type "tuple", data := .seq [c1, c2, c3].toArray } : Obj) = g5 at more tupAt fl5 up5 at5 ⊢
    have J5 : Inv X pins σ' H' { s' with heap := g5 } := J.landed nb fl5.1 (up.trans up5) os ag
    have S5 := J5.suite at5 dat3 fresh nl nf
    have typed : PySem.W.Looks (model X.prog X.w) g5 (typeOf (.ref a)) cls := fun A Q E s k q => wpAny_typeOf_ref (k _ _ at5) (by rw [z3.1]; exact q)
    refine (PySem.W.exm_tup3 (M := model X.prog X.w) J5.kIn typed tupAt hb1).here ?_
    cases b with
    | true =>
      refine codeAny_handlers_suite_as ?_
      refine HandSPX.lands_againZ fl5 fun g4 fl4 up4 => ?_
      have J4 : Inv X pins σ' H' { s' with heap := g4 } := J.landed nb fl4.1 ((up.trans up5).trans up4) os ag
      obtain ⟨oe4, vs4, at4, z4, dat4⟩ := fl4.there
      have S4 := J4.suite at4 dat4 fresh nl nf
      refine store_ok (X := X.suite a ((a, oe4) :: (X.pn ++ pins))) (v := .ref a) S4 nd slot vis rfl (fun s5 S5 => ?_) (.inr loc)
      refine wpAny_mono ((inSuite a oe4 cls d (X.pn ++ pins) z4 ⟨_, dat4⟩).run [] s5 _ H' _ S5 (yes rfl a fresh)) (fun f s6 fin => ?_) (fun _ _ z => False.elim z)
      have close : ∀ {σ6 : L2.St} {H6 : Hp} {Q : Shared → Prop}, Inv (X.suite a ((a, oe4) :: (X.pn ++ pins))) [] σ6 H6 s6 → (∀ s7, Inv X pins (σ6.set i none) H6 s7 → Q s7) →
          wpAny (model X.prog X.w) X.A (do bindName X.env n .none; unbindBehindTheSuite X.env n pos') (fun _ s7 => Q s7) X.xe s6 := fun {σ6 H6 Q} S6 hq => gone_ok (S6.unsuite okI) nd slot loc hq
      match f, fin with
      | .next, ⟨σ6, H6, S6, q6⟩ => exact close S6 fun s7 J7 => ⟨_, _, J7, q6⟩
      | .brk, ⟨σ6, H6, S6, q6⟩ => exact close S6 fun s7 J7 => ⟨_, _, J7, q6⟩
      | .cont, ⟨σ6, H6, S6, q6⟩ => exact close S6 fun s7 J7 => ⟨_, _, J7, q6⟩
      | .ret u, ⟨v6, σ6, H6, S6, r6, q6⟩ => exact close S6 fun s7 J7 => ⟨_, _, _, J7, r6, q6⟩
    | false =>
      show wpAny _ X.A (handleBy (.ref a) X.env []) _ _ _
      refine wpAny_handleBy_nil ?_
      obtain ⟨k1, k2, k3, oe, vs, T, oT, ts', he, hz, hd, h1, hr⟩ := id fl5
      unfold PySem.passOn
      refine wpAny_bind (wpAny_field he hd h1 ?_)
      rw [if_neg (by simp)]
      have leave : wpAny (model X.prog X.w) X.A (setFlight (.ref a) X.env.frame) (fun _ s4 => wpAny (model X.prog X.w) X.A (throw (.ref a) : Sem Flow) (SP X pins D) X.xe s4) X.xe { s' with heap := g5 } := by
        rw [frm]
        refine HandSPX.setFlight_upZ fl5 fun g4 held up4 => wpAny_throw (tk _ _ ?_)
        exact ⟨a, B, sI, pins, σ', H', cls, d, rfl, J, nb, (up.trans up5).trans up4, .inr (.inr (by rw [stk]; exact held)), fresh, os, ag, no rfl⟩
      first
        | exact wpAny_bind (wpAny_pure (wpAny_bind leave))
        | exact wpAny_bind leave
  · match f, q with
    | .next, ⟨σ', H', J', q⟩ => exact wpAny_execs_nil ⟨σ', H', J'.ofTry okI, q⟩
    | .brk, ⟨σ', H', J', q⟩ => exact ⟨σ', H', J'.ofTry okI, q⟩
    | .cont, ⟨σ', H', J', q⟩ => exact ⟨σ', H', J'.ofTry okI, q⟩
    | .ret u, ⟨v, σ', H', J', r, q⟩ => exact ⟨v, σ', H', J'.ofTry okI, r, q⟩
end
end MH
/-! Caught exceptions as objects of the tracked heap; defs that are called within an except suite. -/
namespace MH
open PySem PySem.Spec PyProof.Rows L2

/-! ### a caught exception -/
def exk (a C d : Addr) : HO := .ext fun h => ∃ (o : Obj) (vs : Array Value), h.get? a = some o ∧ o.cls = .ref C ∧ o.dict = some d ∧ o.data = .fields vs
theorem exk_ok {P : Program} {w : World} {H : Hp} {h : Heap} {a C d : Addr} {o : Obj} {vs : Array Value} (h1 : h.get? a = some o) (h2 : o.cls = .ref C) (h3 : o.dict = some d) (h4 : o.data = .fields vs) : ObjOk P w H h a (exk a C d) :=
  ⟨⟨o, vs, h1, h2, h3, h4⟩, ⟨o, h1⟩, fun x y z k => by
    obtain ⟨o, vs, q, r⟩ := z
    exact ⟨o, vs, k _ q, r⟩⟩
theorem exk_at {P : Program} {w : World} {H : Hp} {h : Heap} {a C d : Addr} (hok : HOk P w H h) (he : H a = some (exk a C d)) : ∃ (o : Obj) (vs : Array Value), h.get? a = some o ∧ o.cls = .ref C ∧ o.dict = some d ∧ o.data = .fields vs := by
  have x : ObjOk P w H h a (.ext fun h => ∃ (o : Obj) (vs : Array Value), h.get? a = some o ∧ o.cls = .ref C ∧ o.dict = some d ∧ o.data = .fields vs) := hok a _ he
  exact x.1
section
variable {X : Cx} {pins : List (Addr × Obj)} {σ : L2.St} {H : Hp} {s : Shared}
/-- an object that stands, made since the entry, is told from now on -/
theorem _root_.L2.Inv.track {a : Addr} {o : HO} (I : Inv X pins σ H s) (n0 : X.s_0.heap.get? a = none) (na : H a = none) (nl : X.env.locals ≠ a) (nc : ∀ x c, X.env.cells.lookup x = some c → c ≠ a) (np : ∀ p ∈ X.pn ++ pins, p.1 ≠ a)
    (new : ObjOk X.prog X.w (upd H a o) s.heap a o) : Inv X pins σ (upd H a o) s := by
  have n0' : ∀ {b : Addr} {ob : Obj}, X.s_0.heap.get? b = some ob → b ≠ a := fun {b ob} e z => by
    rw [z, n0] at e
    cases e
  refine ⟨I.ok, I.os, I.bare, ⟨I.base.keep, I.base.slot, fun b ob e n hx => ?_, I.base.there, fun b xs e => ?_, fun b ob u e => ?_, fun b ps e => ?_⟩, I.loc, I.cell, ?_, fun x c e => ?_, fun p hp => ?_, fun b ob e => ?_, I.len⟩
  · rw [upd_ne (n0' e)]
    exact I.base.free b ob e n hx
  · have q := I.base.tups b xs e
    rw [upd_ne (ne_of_none q na)]
    exact q
  · have q := I.base.frzs b ob u e
    rw [upd_ne (ne_of_none q na)]
    exact q
  · obtain ⟨m, q⟩ := I.base.tbls b ps e
    exact ⟨m, by rw [upd_ne (ne_of_none q na)]; exact q⟩
  · rw [upd_ne nl]
    exact I.free
  · rw [upd_ne (nc x c e)]
    exact I.freeC x c e
  · obtain ⟨h1, h2, h3⟩ := I.pin p hp
    exact ⟨h1, by rw [upd_ne (np p hp)]; exact h2, h3⟩
  · by_cases hb : b = a
    · subst hb
      rw [upd_same] at e
      cases e
      exact new
    · rw [upd_ne hb] at e
      exact (I.hok b ob e).stay (fun c v _ z => z) (fun c hc => by rw [upd_ne (ne_of_none hc na)]; exact hc) fun c xs hc => by rw [upd_ne (ne_of_none hc na)]; exact hc
theorem _root_.L2.Inv.suiteK (I : Inv X pins σ H s) (a : Addr) : Inv (X.suite a (X.pn ++ pins)) [] σ H s :=
  ⟨I.ok.suite _ _, I.os, I.bare, I.base, I.loc, I.cell, I.free, I.freeC, fun p hp => by
    have hp' : p ∈ X.pn ++ pins := by
      rw [List.append_nil] at hp
      exact hp
    exact I.pin p hp', I.hok, I.len⟩
theorem _root_.L2.Inv.unsuiteK {a : Addr} {pn' : List (Addr × Obj)} (I : Inv (X.suite a (X.pn ++ pins)) pn' σ H s) (ok : X.Ok) : Inv X pins σ H s :=
  ⟨ok, I.os, I.bare, I.base, I.loc, I.cell, I.free, I.freeC, fun p hp => I.pin p (List.mem_append_left _ hp), I.hok, I.len⟩
end

/-! ### try: body, except (A, B, C) as n: suite -/
def wAsK (K : PySem.W.Frag) (cs : List Value) (n i : Nat) (ts : TS) (Wout : WX) (D : Ends) : WX := fun cls d σ H =>
  ∃ b, PySem.W.exmAny K cls cs = some b ∧
    (b = true → ∃ C dd, cls = .ref C ∧ d = some dd ∧ ∀ a, σ.length = n → H a = none → ts { nx := fun σ' H' => D.nx (σ'.set i none) H', rt := D.rt, bk := fun σ' H' => D.bk (σ'.set i none) H', ct := fun σ' H' => D.ct (σ'.set i none) H' } (σ.set i (some (.ref a))) (upd H a (exk a C dd))) ∧ (b = false → Wout cls d σ H)
section
variable {X : Cx} {x1 x2 x3 n : Str} {c1 c2 c3 : Value} {i kt : Nat} {body suite : List Stmt} {b₀ : Stmt} {p1 p2 p3 pt pos pos' : Pos} {tb : WX → TS} {ts : TS} {Wout : WX}
theorem ps_try_asK (stk : X.stack = X.env :: X.outer) (frm : X.env.frame = some X.env.locals) (hex : X.ex = []) (nd : X.N.Nodup) (slot : X.N[i]? = some n) (loc : X.env.kindOf n = some .local) (n1 : Names X x1 c1) (n2 : Names X x2 c2) (n3 : Names X x3 c3) (tk : Takes X Wout)
    (inBody : ∀ (W : WX) (pn : List (Addr × Obj)) (xe : Value → Shared → Prop), Takes (X.tr pn xe) W → PassesOwn (model X.prog X.w) X.A X.env xe → PSs (X.tr pn xe) body (tb W))
    (inSuite : ∀ (a : Addr) (pn : List (Addr × Obj)), PSs (X.suite a pn) (b₀ :: suite) ts) :
    PS X (.Try body [.ExceptHandler (some (.Tuple [.Name x1 p1, .Name x2 p2, .Name x3 p3] kt pt)) (some n) (b₀ :: suite) pos'] [] [] pos) (fun D σ H => tb (wAsK X.K [c1, c2, c3] X.N.length i ts Wout D) D σ H) := by
  refine ⟨fun pins s σ H D I h => ?_⟩
  have okI := I.ok
  have frs0 : X.A.frames = some (X.env :: X.outer) := by rw [okI.frames, stk]
  have vis : Loc X.env.scope n := .inl loc
  refine wpAny_Try_except ?_
  refine wpAny_mono ((inBody (wAsK X.K [c1, c2, c3] X.N.length i ts Wout D) (X.pn ++ pins)
    (fun e s₁ => wpAny (model X.prog X.w) X.A (noteFrame e X.env) (fun _ s₂ => wpAny (model X.prog X.w) X.A (setFlight e none)
      (fun _ s₃ => wpAny (model X.prog X.w) X.A (handleBy e X.env [.ExceptHandler (some (.Tuple [.Name x1 p1, .Name x2 p2, .Name x3 p3] kt pt)) (some n) (b₀ :: suite) pos']) (SP X pins D) X.xe s₃) X.xe s₂) X.xe s₁)
    (fun u s' air => ?_) PassesOwn.looking).run [] s σ H D (I.toTry _) h) (fun f s1 q => ?_) (fun _ _ z => z)
  · obtain ⟨a, B, sI, pins', σ', H', cls, d, rfl, Jt, nb, up, sky, fresh, os, ag, b, hb1, yes, no⟩ := air
    have J : Inv X pins σ' H' sI := Jt.ofTry okI
    have sky1 : Sky B (X.env :: X.outer) a (Zc cls d) X.env.locals s'.heap := by rw [← stk]; exact sky
    show wpAny (model X.prog X.w) X.A (noteFrame (.ref a) X.env) _ _ _
    refine Sky.land Zc.steady frs0 frm sky1 fun g3 fl3 up3 => ?_
    have J3 : Inv X pins σ' H' { s' with heap := g3 } := J.landed nb fl3.1 (up.trans up3) os ag
    obtain ⟨oe3, vs3, at3, z3, dat3⟩ := fl3.there
    have apart : ∀ {g : Heap} {o : Obj} {vs : Array Value}, g.FunFrames B (X.env :: X.outer) → g.get? a = some o → o.data = .fields vs → a ∉ frs (X.env :: X.outer) := fun {g o vs} ff e dd hm => by
      obtain ⟨_, o', e', notf⟩ := ff.mem hm
      rw [e] at e'
      cases e'
      exact notf _ dd
    have out3 := apart fl3.2.2.1 at3 dat3
    have nl : a ≠ X.env.locals := fun z => out3 (List.mem_filterMap.mpr ⟨X.env, List.mem_cons_self, by rw [frm, z]⟩)
    have nf : a ∉ X.fs := fun hm => by
      obtain ⟨e, he, q⟩ := List.mem_filterMap.mp hm
      exact out3 (List.mem_filterMap.mpr ⟨e, List.mem_cons_of_mem _ he, q⟩)
    have newI : sI.heap.get? a = none := by
      cases q : sI.heap.get? a with
      | none => rfl
      | some o =>
        have z := nb a o q (by rw [stk]; exact out3)
        rw [fl3.2.1] at z
        cases z
    have new0 : X.s_0.heap.get? a = none := by
      cases q : X.s_0.heap.get? a with
      | none => rfl
      | some o =>
        obtain ⟨o', z⟩ := J.base.there a o q (by rw [hex]; simp)
        rw [newI] at z
        cases z
    have S3 := J3.suite at3 dat3 fresh nl nf
    refine wpAny_handleBy_cons (codeAny_handlers_test ?_) (by intro q; cases q)
    have one : ∀ {x : Str} {c : Value} {p : Pos} {Q : Value → Shared → Prop} {E : Value → Shared → Prop}, Names X x c → Q c { s' with heap := g3 } → wpAny (model X.prog X.w) (X.A.mark (some (.ref a))) (eval (.Name x p) X.env) Q E { s' with heap := g3 } := fun {x c p Q E} nm q => by
      obtain ⟨hg, hd, hm | ⟨hm, hv, nn⟩⟩ := nm
      · exact ld_glob (X := X.suite a ((a, oe3) :: (X.pn ++ pins))) S3 hg hm q hd
      · exact ld_blt (X := X.suite a ((a, oe3) :: (X.pn ++ pins))) S3 hg hm hv q nn hd
    refine Tuple_ (Calls.spliced_cons (one n1 (Calls.spliced_cons (one n2 (Calls.spliced_cons (one n3 (Calls.spliced_nil ?_)))))))
    refine wpAny_newObj_type ?_ (by show 3 ≤ sizeLine; decide)
    have more : ∀ b o, g3.get? b = some o → (g3.push ({ cls := .type "tuple", data := .seq [c1, c2, c3].toArray } : Obj)).get? b = some o := fun b o e => Heap.get?_push_of_some _ e
    have tupAt : (g3.push ({ cls := .type "tuple", data := .seq [c1, c2, c3].toArray } : Obj)).get? g3.objs.size = some { cls := .type "tuple", data := .seq [c1, c2, c3].toArray } := Heap.get?_push_size _ rfl
    have fl5 := flying_more more fl3
    have up5 : s'.heap.UpToSlots (g3.push ({ cls := .type "tuple", data := .seq [c1, c2, c3].toArray } : Obj)) := slots_more up3 more
    have at5 := more _ _ at3
    generalize g3.push ({ cls := .type "tuple", data := .seq [c1, c2, c3].toArray } : Obj) = g5 at more tupAt fl5 up5 at5 ⊢
    have J5 : Inv X pins σ' H' { s' with heap := g5 } := J.landed nb fl5.1 (up.trans up5) os ag
    have S5 := J5.suite at5 dat3 fresh nl nf
    have typed : PySem.W.Looks (model X.prog X.w) g5 (typeOf (.ref a)) cls := fun A Q E s k q => wpAny_typeOf_ref (k _ _ at5) (by rw [z3.1]; exact q)
    refine (PySem.W.exm_tup3 (M := model X.prog X.w) J5.kIn typed tupAt hb1).here ?_
    cases b with
    | true =>
      obtain ⟨C, dd, ecls, ed, yes⟩ := yes rfl
      refine codeAny_handlers_suite_as ?_
      refine HandSPX.lands_againZ fl5 fun g4 fl4 up4 => ?_
      have J4 : Inv X pins σ' H' { s' with heap := g4 } := J.landed nb fl4.1 ((up.trans up5).trans up4) os ag
      obtain ⟨oe4, vs4, at4, z4, dat4⟩ := fl4.there
      have T4 : Inv X pins σ' (upd H' a (exk a C dd)) { s' with heap := g4 } := by
        refine J4.track new0 fresh nl.symm (fun x c e z => ?_) (fun p hp z => ?_) (exk_ok at4 (z4.1.trans ecls) (z4.2.trans ed) dat4)
        · obtain ⟨v, o, ho, hd⟩ := J4.cell x c e
          rw [z] at ho
          have z2 := ho.symm.trans at4
          cases z2
          rw [dat4] at hd
          cases hd
        · have q := (J.pin p hp).1
          rw [z, newI] at q
          cases q
      have S4 := T4.suiteK a
      refine store_ok (X := X.suite a (X.pn ++ pins)) (v := .ref a) S4 nd slot vis rfl (fun s5 S5 => ?_) (.inr loc)
      refine wpAny_mono ((inSuite a (X.pn ++ pins)).run [] s5 _ _ _ S5 (yes a J4.len fresh)) (fun f s6 fin => ?_) (fun _ _ z => False.elim z)
      have close : ∀ {σ6 : L2.St} {H6 : Hp} {Q : Shared → Prop}, Inv (X.suite a (X.pn ++ pins)) [] σ6 H6 s6 → (∀ s7, Inv X pins (σ6.set i none) H6 s7 → Q s7) →
          wpAny (model X.prog X.w) X.A (do bindName X.env n .none; unbindBehindTheSuite X.env n pos') (fun _ s7 => Q s7) X.xe s6 := fun {σ6 H6 Q} S6 hq => gone_ok (S6.unsuiteK okI) nd slot loc hq
      match f, fin with
      | .next, ⟨σ6, H6, S6, q6⟩ => exact close S6 fun s7 J7 => ⟨_, _, J7, q6⟩
      | .brk, ⟨σ6, H6, S6, q6⟩ => exact close S6 fun s7 J7 => ⟨_, _, J7, q6⟩
      | .cont, ⟨σ6, H6, S6, q6⟩ => exact close S6 fun s7 J7 => ⟨_, _, J7, q6⟩
      | .ret u, ⟨v6, σ6, H6, S6, r6, q6⟩ => exact close S6 fun s7 J7 => ⟨_, _, _, J7, r6, q6⟩
    | false =>
      show wpAny _ X.A (handleBy (.ref a) X.env []) _ _ _
      refine wpAny_handleBy_nil ?_
      obtain ⟨k1, k2, k3, oe, vs, T, oT, ts', he, hz, hd, h1, hr⟩ := id fl5
      unfold PySem.passOn
      refine wpAny_bind (wpAny_field he hd h1 ?_)
      rw [if_neg (by simp)]
      have leave : wpAny (model X.prog X.w) X.A (setFlight (.ref a) X.env.frame) (fun _ s4 => wpAny (model X.prog X.w) X.A (throw (.ref a) : Sem Flow) (SP X pins D) X.xe s4) X.xe { s' with heap := g5 } := by
        rw [frm]
        refine HandSPX.setFlight_upZ fl5 fun g4 held up4 => wpAny_throw (tk _ _ ?_)
        exact ⟨a, B, sI, pins, σ', H', cls, d, rfl, J, nb, (up.trans up5).trans up4, .inr (.inr (by rw [stk]; exact held)), fresh, os, ag, no rfl⟩
      first
        | exact wpAny_bind (wpAny_pure (wpAny_bind leave))
        | exact wpAny_bind leave
  · match f, q with
    | .next, ⟨σ', H', J', q⟩ => exact wpAny_execs_nil ⟨σ', H', J'.ofTry okI, q⟩
    | .brk, ⟨σ', H', J', q⟩ => exact ⟨σ', H', J'.ofTry okI, q⟩
    | .cont, ⟨σ', H', J', q⟩ => exact ⟨σ', H', J'.ofTry okI, q⟩
    | .ret u, ⟨v, σ', H', J', r, q⟩ => exact ⟨v, σ', H', J'.ofTry okI, r, q⟩
end

/-! ### promises of defs that are called within a suite (whatever is handled), while no repr is under way -/
def FnK (P : Program) (w : World) (K : PySem.W.Frag) (mg : Str → Option Value) (base : Heap) (k : Nat) (f : Addr) (sp : Sp) : Prop :=
  ∀ (A : Around) (fr : List Env) (st : Shared) (H : Hp) (us : List Value) (vs : List V) (Q : VK), A.guards = some [] → L2H.RoomH k A → Env0 P w K mg base A fr st H → Vals vs us →
    sp vs H Q E0 → codeAny (model P w) A (.call (.ref f) ⟨us, []⟩) (CR CX0 fr P w H st Q E0) st
/-- the context of such a def's body -/
def cxK (P : Program) (w : World) (K : PySem.W.Frag) (mg : Str → Option Value) (base : Heap) (N : List Str) (qual : Str) (scope : Scope) (f : Addr) (cd : Value) (A : Around) (outer : List Env) (s : Shared) (H : Hp) : Cx :=
  { cxOf CX0 P w K mg base N qual scope f cd A outer s H E0 with calm := false }
theorem inv_startK {P : Program} {w : World} {K : PySem.W.Frag} {mg : Str → Option Value} {base : Heap} {N ps : List Str} {qual : Str} {scope : Scope} {f : Addr} {cd : Value} {A : Around} {outer : List Env} {s s1 : Shared} {H : Hp} {us : List Value} {vs : List V}
    (S : FnScope N ps scope) (e0 : Env0 P w K mg base A outer s H) (hl : vs.length = ps.length) (r : Vals vs us)
    (x : InCallC s s.heap.objs.size (bindL (envOfC qual scope s.heap.objs.size f cd).kindOf (ps.zip us) fun _ => none) (cellsFrom (s.heap.objs.size + 1) scope.names []) (bindC (envOfC qual scope s.heap.objs.size f cd).kindOf (ps.zip us) fun _ => none) s1) :
    Inv (cxK P w K mg base N qual scope f cd A outer s H) [] (L2.start N vs) H s1 := by
  -- as if nothing were handled: of the surroundings the invariant knows the frames alone
  have calmer : Env0 P w K mg base { A with handled := none } outer s H := ⟨e0.frames, e0.mod, e0.bs, e0.bsz, e0.funs, e0.frf, e0.hok, e0.bare⟩
  have I := inv_start (CX := CX0) (E := E0) S (A := { A with handled := none }) rfl calmer hl r x
  exact ⟨⟨I.ok.mod, I.ok.kind, I.ok.glob, I.ok.blt, I.ok.above, I.ok.inj, I.ok.has, I.ok.cab, (fun z => (nomatch (show false = true from z))), I.ok.frames, I.ok.stk, I.ok.exf, I.ok.bs, I.ok.bsz, I.ok.noex, I.ok.exfs, I.ok.funs, I.ok.frf⟩,
    I.os, I.bare, I.base, I.loc, I.cell, I.free, I.freeC, I.pin, I.hok, I.len⟩
section
variable {P : Program} {w : World} {K : PySem.W.Frag} {mg : Str → Option Value} {base : Heap} {k : Nat} {f : Addr} {sp : Sp}
theorem FnK.mono {j : Nat} (F : FnK P w K mg base j f sp) (h : j ≤ k) : FnK P w K mg base k f sp := fun A fr st H us vs Q hg hr => F A fr st H us vs Q hg (hr.mono h)
theorem fk_of {name qual : Str} {pms : Arguments} {body : List Stmt} {sc : Scope} {dV kV doc pm cdv ct oc : Value} {an od : Option Addr} {osl : Array (Option Value)} {N ps : List Str}
    (lk : K.lookup f = some ⟨oc, od, .func (PySem.W.fnOf name qual pms body sc dV kV doc pm an cdv ct), osl⟩) (hc : PySem.W.codeIn K cdv qual = true) (S : FnScope N ps sc)
    (hB : Binds K (PySem.W.fnOf name qual pms body sc dV kV doc pm an cdv ct) ps []) (hlen : ∀ vs H Q E, sp vs H Q E → vs.length = ps.length)
    (hbd : ∀ (A : Around) (fr : List Env) (st : Shared) (H : Hp) (vs : List V) (Q : VK), A.guards = some [] → L2H.RoomH k (A.deeper (envOfC qual sc st.heap.objs.size f cdv)) → sp vs H Q E0 →
      ∃ t, PSs (cxK P w K mg base N qual sc f cdv A fr st H).nox body t ∧ t { nx := fun _ H' => Q .non H', rt := Q } (start N vs) H) :
    FnK P w K mg base (k + 1) f sp := by
  intro A fr st H us vs Q hg hr e0 r hs
  have hl := hlen _ _ _ _ hs
  have hul : (us ++ []).length = ps.length := by
    rw [List.append_nil, ← r.length, hl]
  have KX : K.In st.heap := e0.mod.kin.keeps fun b o e => (e0.bs b o e).1
  have nl : st.heap.NoLimit := e0.mod.nolimit.keeps fun b o e => (e0.bs b o e).1
  have hk : ∀ y ∈ ps.zip us, sc.names.lookup y.1 = some .local ∨ (sc.names.lookup y.1 = some .cell ∧ ((cellsFrom (st.heap.objs.size + 1) sc.names []).lookup y.1).isSome = true) := by
    intro y hy
    rcases S.par y.1 (List.of_mem_zip hy).1 with q | q
    · exact .inl q
    · exact .inr ⟨q, PySem.W.cellsFrom_some _ _ _ (.inl q)⟩
  have hb2 := hB st us KX hul
  rw [List.append_nil] at hb2
  refine codeAny_call_function hr.depth (KX _ _ lk) rfl S.co S.gen rfl (PySem.W.codeRec_of KX hc) (hb2 _ _ _ _ ?_)
  refine wpAny_newFunctionEnv_cells S.kind hk fun env he s1 x => ?_
  subst he
  refine ⟨nl.keeps x.toInCall.keep, codeAny_func ?_⟩
  obtain ⟨t, ht, hq⟩ := hbd A fr st H vs Q hg (hr.deeper _) hs
  have J : Inv (cxK P w K mg base N qual sc f cdv A fr st H) [] (start N vs) H s1 := inv_startK S e0 hl r x
  refine wpAny_mono (ht.nox.run [] s1 (start N vs) H _ J hq) (fun fl s' hz => ?_) fun e s' hz => hz
  cases fl with
  | ret u =>
    obtain ⟨v, σ', H', J', rv, q⟩ := hz
    exact ⟨v, H', J'.os, J'.bare, J'.base, J'.hok, rv, q⟩
  | next =>
    obtain ⟨σ', H', J', q⟩ := hz
    exact ⟨.non, H', J'.os, J'.bare, J'.base, J'.hok, rfl, q⟩
  | brk => exact (hz.choose_spec.choose_spec.2 : False).elim
  | cont => exact (hz.choose_spec.choose_spec.2 : False).elim
theorem fun_k {x qual : Str} {st : Stmt} {fd : FuncData} {N ps : List Str} (F : Fun K x qual st f fd) (S : FnScope N ps (defScope st)) (hB : Binds K fd ps []) (hlen : ∀ vs H Q E, sp vs H Q E → vs.length = ps.length)
    (hbd : ∀ (cdv : Value) (A : Around) (fr : List Env) (s : Shared) (H : Hp) (vs : List V) (Q : VK), A.guards = some [] → L2H.RoomH k (A.deeper (envOfC qual (defScope st) s.heap.objs.size f cdv)) → sp vs H Q E0 →
      ∃ t, PSs (cxK P w K mg base N qual (defScope st) f cdv A fr s H).nox (defBody st) t ∧ t { nx := fun _ H' => Q .non H', rt := Q } (start N vs) H) :
    FnK P w K mg base (k + 1) f sp := by
  obtain ⟨oc, od, kV, doc, pm, an, cdv, ct, osl, rfl, lk, hc⟩ := F.ex
  exact fk_of lk hc S hB hlen fun A fr s H vs Q hg hr hs => hbd cdv A fr s H vs Q hg hr hs
end
section
variable {X : Cx} {k : Nat} {f : Addr} {sp : Sp} {x : Str} {p pos : Pos} {e : Expr} {es : List Expr} {t : TA}
/-- f(e, ..) in a suite -/
theorem pe_callk (F : FnK X.prog X.w X.K X.mg X.base k f sp) (hg : X.A.guards = some []) (hr : L2H.RoomH k X.A) (gl : Gl X x) (hm : X.mg x = some (.ref f)) (hk : PySem.W.keepIn X.K (.ref f) = true)
    (ha : PA X (e :: es) t) (hdb : (x == ("__debug__" : Str)) = false := by decide) (he : starEach (e :: es) X.env = (false, eval e X.env) :: starEach es X.env := by rfl) (hpl : (backTo pos (starEach es X.env)).any (·.1) = false := by rfl) :
    PE X (.Call (.Name x p) (e :: es) [] pos) (tCall sp [] E0 t) := by
  refine ⟨fun pins s σ H Q I h => ?_⟩
  refine wpAny_Call_Name_kw (ld_glob I gl hm ?_ hdb)
  refine PySem.W.callWith_K (h₀ := X.base) I.ok.mod.kin hk (thn (ha.run pos pins s σ H _ I h) fun us s1 ⟨vs, H1, I1, r, q⟩ => ⟨I1.kIn, ?_⟩) he hpl
  have q1 : sp vs H1 Q E0 := by
    have z : sp (vs ++ []) H1 Q E0 := q
    rw [List.append_nil] at z
    exact z
  refine wpAny_call (codeAny_mono (F X.A X.stack s1 H1 us vs Q hg hr I1.env0 r q1) fun r s' hq => ?_)
  match r, hq with
  | .ok (.ret u), hq => exact I1.after hq
  | .ok .next, hq => exact False.elim hq
  | .ok .brk, hq => exact False.elim hq
  | .ok .cont, hq => exact False.elim hq
  | .error _, hq => exact False.elim hq
end
/-! ### isinstance and fields of a caught exception -/
/-- the exception at a: its class, its dict, its fields -/
def ExAt (H : Hp) (a C : Addr) (fs : List (Str × V)) : Prop := ∃ d, H a = some (exk a C d) ∧ H d = some (.xd fs)
/-- what its class says -/
structure ExcK (K : PySem.W.Frag) (D : Addr) : Prop where
  cl : (PySem.W.clsIn K D).isSome = true
  hg : PySem.W.findIn K (.ref D) "__getattribute__" = some (some (.builtin "BaseException.__getattribute__"))
  hk : PySem.W.findIn K (.ref D) "__getattr__" = some none
  hs : PySem.W.subIn K (.ref D) (.type "BaseException") = some true
  hd : PySem.W.hasDictIn K D = true
  ha : PySem.W.findIn K (.ref D) "__class__" = some (some (.builtin "object.__class__"))
  hn : PySem.W.specialIn K (.builtin "object.__class__") "__get__" = some (some (.builtin "getset_descriptor.__get__"))
  ht : PySem.W.takesIn K (.builtin "object.__class__") = some true
  hm : PySem.W.mroIn K D (.type "object") = some true
theorem ExAt.inst {X : Cx} {pins : List (Addr × Obj)} {σ : L2.St} {H : Hp} {s : Shared} {a C : Addr} {fs : List (Str × V)} (I : Inv X pins σ H s) (e : ExAt H a C fs) :
    ∃ (d : Addr) (o od : Obj), PySem.W.InstAt s.heap a o C (some od) ∧ H d = some (.xd fs) ∧ o.dict = some d ∧ s.heap.get? d = some od := by
  obtain ⟨d, e1, e2⟩ := e
  obtain ⟨o, vs, h1, h2, h3, h4⟩ := exk_at I.hok e1
  have hx : ObjOk X.prog X.w H s.heap d (.xd fs) := I.hok d _ e2
  obtain ⟨mA, hns, hr⟩ := hx
  obtain ⟨od, es, ep, ho, _⟩ := id hns
  exact ⟨d, o, od, ⟨h1, h2, by unfold PySem.W.notCls; rw [h4] <;> rfl, by rw [h3]; exact ho⟩, e2, h3, ho⟩
def rIsK (K : PySem.W.Frag) : List V → Hp → VK → Prop := fun xs H Q => ∃ (a C : Addr) (fs : List (Str × V)) (c : V) (cv : Value) (b : Bool), xs = [.ref a, c] ∧ ExAt H a C fs ∧ ExcK K C ∧ (∀ u, RelV c u → u = cv) ∧ PySem.W.kitOne K (.ref C) cv = some b ∧ Q (.bl b) H
theorem call_isK {X : Cx} : CallR X (.builtin "isinstance") (rIsK X.K) := by
  intro pins s σ H xs us Q I r h
  obtain ⟨a, C, fs, c, cv, b, rfl, e, T, hcv, ek, q⟩ := h
  cases r with
  | cons rx rr =>
    cases rr with
    | cons rt rr =>
      cases rr
      cases rx
      have ec := hcv _ rt
      subst ec
      obtain ⟨d, o, od, J, _⟩ := e.inst I
      exact PySem.W.kia_one (PySem.W.kitx_exc T.cl T.hg T.hk T.hs T.ha T.hn T.ht T.hm) I.kIn J ek (fun z => nomatch z) fun tk => ⟨.bl b, H, I.kept (t' := tk) fun _ _ z => z, rfl, q⟩
def tXk (K : PySem.W.Frag) (f : Str) (te : TE) : TE := fun σ H Q => te σ H fun x H1 => ∃ (a C : Addr) (fs : List (Str × V)) (v : V), x = .ref a ∧ ExAt H1 a C fs ∧ ExcK K C ∧ PySem.W.findIn K (.ref C) f = some none ∧ fs.lookup f = some v ∧ Q v H1
theorem pe_xk {X : Cx} {e : Expr} {te : TE} {pos : Pos} {n : Str} (he : PE X e te) (hb : attributeBase e n X.env (eval e X.env) = eval e X.env := by rfl) : PE X (.Attribute e n pos) (tXk X.K n te) := by
  refine ⟨fun pins s σ H Q I h => ?_⟩
  refine attr_of hb (thn (he.run pins s σ H _ I h) fun u s1 hh => ?_)
  obtain ⟨x, H1, I1, rx, a, C, fs, v, ex, ea, T, hno, l, q⟩ := hh
  subst ex
  obtain rfl : u = Value.ref a := rx
  obtain ⟨d, o, od, J, e2, ed, eo⟩ := ea.inst I1
  have hx : ObjOk X.prog X.w H1 s1.heap d (.xd fs) := I1.hok d _ e2
  obtain ⟨mA, hns, hr⟩ := hx
  obtain ⟨od', ho, hl⟩ := lookIn_ns hns
  obtain rfl : od' = od := Option.some.inj (ho.symm.trans eo)
  obtain ⟨u, hu, ru⟩ := RelO.some_of (v := v) (o := mA n) (by rw [← l]; exact hr n)
  exact HandSPX.exc_get I1.kIn J T.hg T.hk T.hs (PySem.W.findObj_own T.hd hno rfl (by rw [hl, hu])) (handed_of ru) ⟨v, H1, I1.tok _, ru, q⟩
end MH
/-! repr of values of many kinds; list.count of truths; the signs of what repr shows. -/
namespace MH
open PySem PySem.Spec PyProof.Rows L2

/-! ### signs -/
def SgOk (z : Str) : Prop := ∀ c ∈ z.cps.toList, c < 0x110000
theorem sg_iff {z : Str} : PyData.strOk z = true ↔ SgOk z := by
  unfold PyData.strOk SgOk
  rw [← Array.all_toList, List.all_eq_true]
  exact ⟨fun h c hc => of_decide_eq_true (h c hc), fun h c hc => decide_eq_true (h c hc)⟩
theorem sg_append {x y : Str} (a : SgOk x) (b : SgOk y) : SgOk (x ++ y) := by
  intro c hc
  have hc' : c ∈ (x.cps ++ y.cps).toList := hc
  rw [Array.toList_append, List.mem_append] at hc'
  exact hc'.elim (a c) (b c)
theorem char_lt (c : Char) : c.toNat < 0x110000 := by
  have h := c.valid
  have e : c.toNat = c.val.toNat := rfl
  rcases h with h | h
  · rw [e]
    have h' : c.val.toNat < 0xd800 := h
    omega
  · rw [e]
    exact h.2
theorem sg_ofString (s : String) : SgOk (Str.ofString s) := by
  intro c hc
  rw [Str.ofString_eq_toList] at hc
  have hc' : c ∈ s.toList.map Char.toNat := by simpa using hc
  obtain ⟨d, _, rfl⟩ := List.mem_map.mp hc'
  exact char_lt d
theorem sg_join {sep : Str} (h : SgOk sep) : ∀ {l : List Str}, (∀ z ∈ l, SgOk z) → SgOk (Str.join sep l)
  | [], _ => fun c hc => by simp [Str.join, Str.empty] at hc
  | [x], hl => hl x List.mem_cons_self
  | x :: y :: r, hl => by
    show SgOk (x ++ sep ++ Str.join sep (y :: r))
    exact sg_append (sg_append (hl x List.mem_cons_self) h) (sg_join h fun z hz => hl z (List.mem_cons_of_mem _ hz))
theorem sg_reprChar {q c : Nat} (hc : c < 0x110000) : ∀ y ∈ Builtin.Str.reprChar q c, y < 0x110000 := by
  have hx : ∀ w : Nat, ∀ y ∈ List.replicate (w - ((Nat.toDigits 16 c).map Char.toNat).length) 48 ++ (Nat.toDigits 16 c).map Char.toNat, y < 0x110000 := by
    intro w y hy
    rcases List.mem_append.mp hy with hy | hy
    · have := (List.mem_replicate.mp hy).2
      omega
    · obtain ⟨d, _, rfl⟩ := List.mem_map.mp hy
      exact char_lt d
  unfold Builtin.Str.reprChar
  dsimp only
  intro y hy
  have two : ∀ {a b : Nat} {w : Nat}, a < 0x110000 → b < 0x110000 → y ∈ [a, b] ++ (List.replicate (w - ((Nat.toDigits 16 c).map Char.toNat).length) 48 ++ (Nat.toDigits 16 c).map Char.toNat) → y < 0x110000 := by
    intro a b w ha hb hm
    rcases List.mem_append.mp hm with hm | hm
    · rcases List.mem_cons.mp hm with rfl | hm
      · exact ha
      · rw [List.mem_singleton.mp hm]
        exact hb
    · exact hx w y hm
  have lit : ∀ {a b : Nat}, a < 0x110000 → b < 0x110000 → y ∈ [a, b] → y < 0x110000 := by
    intro a b ha hb hm
    rcases List.mem_cons.mp hm with rfl | hm
    · exact ha
    · rw [List.mem_singleton.mp hm]
      exact hb
  split at hy
  · rcases List.mem_cons.mp hy with rfl | hm
    · decide
    · rw [List.mem_singleton.mp hm]
      exact hc
  · split at hy
    · exact lit (by decide) (by decide) hy
    · split at hy
      · exact lit (by decide) (by decide) hy
      · split at hy
        · exact lit (by decide) (by decide) hy
        · split at hy
          · rw [List.mem_singleton.mp hy]
            exact hc
          · split at hy
            · exact two (by decide) (by decide) hy
            · split at hy
              · exact two (by decide) (by decide) hy
              · exact two (by decide) (by decide) hy
theorem sg_foldl (q : Nat) : ∀ (l : List Nat) (acc : Array Nat), (∀ c ∈ l, c < 0x110000) → (∀ c ∈ acc.toList, c < 0x110000) → ∀ c ∈ (l.foldl (fun out c => out ++ (Builtin.Str.reprChar q c).toArray) acc).toList, c < 0x110000
  | [], acc, _, ha => ha
  | d :: l, acc, hl, ha => by
    rw [List.foldl_cons]
    refine sg_foldl q l _ (fun c hc => hl c (List.mem_cons_of_mem _ hc)) fun c hc => ?_
    rw [Array.toList_append, List.mem_append] at hc
    rcases hc with hc | hc
    · exact ha c hc
    · exact sg_reprChar (hl d List.mem_cons_self) c (by simpa using hc)
theorem sg_repr {x : Str} (h : SgOk x) : SgOk (reprText x) := by
  have hq : reprQuote x < 0x110000 := by
    unfold reprQuote
    split <;> decide
  intro c hc
  have hc' : c ∈ ((x.cps.foldl (fun out c => out ++ (Builtin.Str.reprChar (reprQuote x) c).toArray) #[reprQuote x]).push (reprQuote x)).toList := hc
  rw [Array.toList_push, List.mem_append] at hc'
  rcases hc' with hc' | hc'
  · rw [← Array.foldl_toList] at hc'
    exact sg_foldl _ _ _ h (fun d hd => by
      have e : d = reprQuote x := by simpa using hd
      rw [e]
      exact hq) c hc'
  · rw [List.mem_singleton.mp hc']
    exact hq
mutual
theorem sg_shown : ∀ d : PyData, okD d = true → SgOk d.shown
  | .none, _ => by
    rw [PyData.shown_none]
    exact sg_ofString _
  | .bool b, _ => by
    rw [PyData.shown_bool]
    cases b <;> exact sg_ofString _
  | .int i, _ => by
    rw [PyData.shown_int]
    exact sg_ofString _
  | .str x, h => by
    rw [PyData.shown_str]
    exact sg_repr (sg_iff.mp h)
  | .list xs, h => by
    rw [PyData.shown_list]
    exact sg_append (sg_append (sg_ofString _) (sg_join (sg_ofString _) (sg_shownAll xs h))) (sg_ofString _)
  | .tuple xs, h => by
    rw [PyData.shown_tuple]
    exact sg_append (sg_append (sg_ofString _) (sg_join (sg_ofString _) (sg_shownAll xs h))) (sg_ofString _)
  | .dict _, h => nomatch h
theorem sg_shownAll : ∀ xs : List PyData, okDs xs = true → ∀ z ∈ PyData.shownAll xs, SgOk z
  | [], _ => fun z hz => by
    rw [PyData.shownAll_nil] at hz
    cases hz
  | x :: xs, h => fun z hz => by
    have h' : (okD x && okDs xs) = true := h
    rw [Bool.and_eq_true] at h'
    rw [PyData.shownAll_cons] at hz
    rcases List.mem_cons.mp hz with rfl | hz
    · exact sg_shown x h'.1
    · exact sg_shownAll xs h'.2 z hz
end

/-! ### what repr shows of a value -/
/-- data, not deep, not long; or an empty dict -/
def Shw (K : PySem.W.Frag) (H : Hp) (v : V) (txt : Str) : Prop :=
  (∃ d, Dp K H v d ∧ okD d = true ∧ d.depth ≤ 60 ∧ cost d ≤ 100000 ∧ txt = d.shown) ∨ (∃ a, v = .ref a ∧ H a = some (.dK []) ∧ txt = "{}")
theorem Shw.sg {K : PySem.W.Frag} {H : Hp} {v : V} {txt : Str} (h : Shw K H v txt) : SgOk txt := by
  rcases h with ⟨d, _, ok, _, _, rfl⟩ | ⟨a, _, _, rfl⟩
  · exact sg_shown d ok
  · exact sg_ofString _
def rReprV (K : PySem.W.Frag) : List V → Hp → VK → Prop := fun xs H Q => ∃ (v : V) (txt : Str), xs = [v] ∧ Shw K H v txt ∧ Q (.str txt) H
section
variable {X : Cx}
theorem empty_reads {P : Program} {w : World} {H : Hp} {h : Heap} {a : Addr} (hok : HOk P w H h) (e : H a = some (.dK [])) : Reads h (.ref a) (.dict []) ([a] ++ []) ∧ sysModules ≠ a := by
  obtain ⟨_, hs, vs, hk, hd⟩ := dk_of hok e
  cases hk
  obtain ⟨o, es, ep, ho, hx, hdat, hk2, hp, _⟩ := hd
  refine ⟨?_, fun z => ?_⟩
  · have e0 : es.toList = [] := by
      generalize es.toList = l at hp
      cases hp
      rfl
    refine Reads.dict (as := []) (bs := []) ho ?_ hdat ?_ ?_
    · exact hx.1
    · rw [e0]
      exact .nil
    · rw [e0]
      exact .nil
  · rw [← z] at hs
    simp at hs
theorem call_reprV (hg : X.A.guards = some []) (hu : X.A.units + 64 < cLine) : CallR X (.builtin "repr") (rReprV X.K) := by
  intro pins s σ H xs us Q I r h
  obtain ⟨v, txt, rfl, hs, q⟩ := h
  obtain ⟨u, rfl, ru⟩ := vals1 r
  rcases hs with ⟨d, hd, ok, dep, cst, rfl⟩ | ⟨a, rfl, e, rfl⟩
  · have hlen : d.shown.length ≤ sizeLine := Nat.le_trans (shown_le d ok) (Nat.le_trans cst (by decide))
    have isRef : ∀ a, u = Value.ref a → wpAny (model X.prog X.w) X.A (call (.builtin "repr") [u]) (EP X pins σ Q) X.xe s := fun a eu => by
      obtain ⟨as, rd⟩ := Dp.reads I d _ _ hd ru
      subst eu
      exact repr_of_reads' rd (ok_show d ok) (PyData.noDict_hsm (PyData.hasDict_of_canLay d (ok_lay d ok))) hg (by omega) (fun _ _ e => e) (fun h' u tk hk => ⟨.str d.shown, H, I.kept hk, ⟨_, rfl⟩, q⟩) hlen
    cases hd with
    | non =>
      obtain rfl : u = Value.none := ru
      rw [PyData.shown_none] at q
      exact PySem.P.repr_of_none ⟨.str _, H, I.tok _, ⟨_, rfl⟩, q⟩
    | bl b =>
      obtain rfl : u = Value.bool b := ru
      rw [PyData.shown_bool] at q
      refine PySem.P.repr_of_bool ⟨.str _, H, I.tok _, ⟨_, rfl⟩, ?_⟩
      cases b <;> exact q
    | int i =>
      obtain ⟨t, rfl⟩ := ru
      rw [PyData.shown_int] at q
      have q2 := ok_show (.int i) ok
      rw [PyData.showable] at q2
      exact PySem.P.repr_of_int (of_decide_eq_true q2) ⟨.str _, H, I.tok _, ⟨_, rfl⟩, q⟩
    | str x =>
      obtain ⟨t, rfl⟩ := ru
      rw [PyData.shown_str] at q hlen
      exact PySem.P.repr_of_str ⟨.str _, H, I.tok _, ⟨_, rfl⟩, q⟩ hlen
    | lst h1 h2 => exact isRef _ ru
    | tup h1 h2 => exact isRef _ ru
  · obtain rfl : u = Value.ref a := ru
    obtain ⟨rd, ns⟩ := empty_reads I.hok e
    have es : (PyData.dict []).shown = ("{}" : Str) := by
      rw [PyData.shown_dict, PyData.shownKv_nil]
      rfl
    refine repr_of_reads' rd (by simp only [PyData.showable]; rfl) (fun _ z => ns (by simpa using z)) hg (by simp only [PyData.depth]; first | omega | (rw [PyData.depthKv]; omega)) (fun _ _ e => e) (fun h' u tk hk => ⟨.str (PyData.dict []).shown, H, I.kept hk, ⟨_, rfl⟩, ?_⟩) (by rw [es]; decide)
    rw [es]
    exact q
end

/-! ### list.count of truths -/
def eqb (b : Bool) : Value → Bool := fun v => v == Value.bool b
def rCntB (K : PySem.W.Frag) : V → List V → Hp → VK → Prop := fun x xs H Q => ∃ (p : Addr) (bs : List Bool) (b : Bool), x = .ref p ∧ xs = [.bl b] ∧ SqL K H p (bs.map V.bl) ∧ bs.length ≤ 1000 ∧ Q (.int (bs.count b : Nat)) H
section
variable {X : Cx}
theorem dp_bls {K : PySem.W.Frag} {H : Hp} : ∀ bs : List Bool, DpAll K H (bs.map V.bl) (bs.map PyData.bool)
  | [] => .nil
  | b :: r => .cons (.bl b) (dp_bls r)
theorem bools_plain : ∀ bs : List Bool, PyData.plainAll (bs.map PyData.bool) = true
  | [] => by simp only [List.map_nil, PyData.plainAll]
  | b :: r => by
    rw [List.map_cons, PyData.plainAll, bools_plain r]
    simp only [PyData.plain, Bool.and_true]
theorem bools_depth : ∀ bs : List Bool, PyData.depthAll (bs.map PyData.bool) = 0
  | [] => by simp only [List.map_nil, PyData.depthAll]
  | b :: r => by
    rw [List.map_cons, PyData.depthAll, bools_depth r, PyData.depth]
    rfl
theorem bools_count (b : Bool) : ∀ bs : List Bool, (bs.map PyData.bool).countP (fun y => PyData.eqv y (.bool b)) = bs.count b
  | [] => rfl
  | c :: r => by
    rw [List.map_cons, List.countP_cons, List.count_cons, bools_count b r]
    congr 1
theorem mt_bcount (hu : X.A.units + 64 < cLine) : MtR X "list.count" (rCntB X.K) := by
  intro pins s σ H x xs v us Q I rx rxs h
  obtain ⟨p, bs, b, rfl, rfl, hs, hz, q⟩ := h
  cases rx
  obtain ⟨u, rfl, ru⟩ := rxs.one
  obtain rfl : u = Value.bool b := ru
  obtain ⟨its, rv, pl, hlen⟩ := I.list hs
  obtain ⟨as, rd⟩ := Dp.readsAll I _ _ _ (dp_bls bs) rv
  have e : ((bs.map PyData.bool).countP fun y => PyData.eqv y (PyData.bool b)) = bs.count b := bools_count b bs
  refine PySem.SeqAt.count_list_data (vs := its.toArray) (xs := bs.map PyData.bool) (d := .bool b) pl.isList (by simpa using rd) (Reads.bool b) (bools_plain bs) (by simp only [PyData.plain]) (by rw [bools_depth]; simp only [PyData.depth]; omega) ?_
  rw [e]
  exact ⟨.int (bs.count b : Nat), H, I.tok _, ⟨_, rfl⟩, q⟩
end
end MH
/-! Small rules: what a callee lets out, defs that make lambdas, upper and replace side by side, frames in which tables of code grow, the end of such a law. -/
namespace MH
open PySem PySem.Spec PyProof.Rows L2

/-- what a callee lets out leaves this def -/
theorem passX {X : Cx} {E : XK} {E₁ : Value → Shared → Prop} (hs : X.stack = X.env :: X.outer) (hf : X.env.frame = some X.env.locals) (hex : X.ex = [])
    (hx : X.xe = fun e s' => wpAny (model X.prog X.w) X.A (leaving X.env e) (fun _ s'' => L2.CX X.prog X.w X.outer X.H_0 X.s_0 E e s'') E₁ s') : Passes (L2.CX X.prog X.w) X E := passes_call (takes_of hs hf hex hx) fun _ _ _ _ h => h
theorem roomH_units {k : Nat} {A : Around} (r : L2H.RoomH k A) : A.units + 64 < cLine := by
  have := r.un
  omega
theorem _root_.L2H.RoomH.units {k : Nat} {A : Around} (r : L2H.RoomH k A) : A.units + 64 < cLine := roomH_units r

/-! ### a def whose code object is told -/
def MkFn (K : PySem.W.Frag) (x : Str) (st : Stmt) (f c : Addr) (ps : List Str) : Prop :=
  ∃ (oc : Value) (od : Option Addr) (kV doc pm : Value) (an : Option Addr) (ct : Value) (osl : Array (Option Value)),
    K.lookup f = some ⟨oc, od, .func (PySem.W.fnOf x x (defArgs st) (defBody st) (defScope st) .none kV doc pm an (.ref c) ct), osl⟩ ∧ PySem.W.codeIn K (.ref c) x = true ∧ Binds K (PySem.W.fnOf x x (defArgs st) (defBody st) (defScope st) .none kV doc pm an (.ref c) ct) ps []
theorem _root_.L2.Fun.shape {K : PySem.W.Frag} {x : Str} {st : Stmt} {f : Addr} {fd : FuncData} {ps : List Str} (F : Fun K x x st f fd) (b : Binds K fd ps []) :
    ∃ (oc : Value) (od : Option Addr) (kV doc pm : Value) (an : Option Addr) (cdv ct : Value) (osl : Array (Option Value)),
      K.lookup f = some ⟨oc, od, .func (PySem.W.fnOf x x (defArgs st) (defBody st) (defScope st) .none kV doc pm an cdv ct), osl⟩ ∧ PySem.W.codeIn K cdv x = true ∧ Binds K (PySem.W.fnOf x x (defArgs st) (defBody st) (defScope st) .none kV doc pm an cdv ct) ps [] := by
  obtain ⟨oc, od, kV, doc, pm, an, cdv, ct, osl, e, lk, hc⟩ := F.ex
  subst e
  exact ⟨oc, od, kV, doc, pm, an, cdv, ct, osl, lk, hc, b⟩
section
variable {P : Program} {w : World} {K : PySem.W.Frag} {mg : Str → Option Value} {base : Heap} {k : Nat} {f c : Addr} {sp : Sp}
theorem fun_m {x : Str} {st : Stmt} {N ps : List Str} (M : MkFn K x st f c ps) (S : FnScope N ps (defScope st)) (hlen : ∀ vs H Q E, sp vs H Q E → vs.length = ps.length)
    (hbd : ∀ (A : Around) (fr : List Env) (s : Shared) (H : Hp) (vs : List V) (Q : VK), A.guards = some [] → Room k (A.deeper (envOfC x (defScope st) s.heap.objs.size f (.ref c))) → sp vs H Q E0 →
      ∃ t, PSs (cxOf CX0 P w K mg base N x (defScope st) f (.ref c) A fr s H E0).nox (defBody st) t ∧ t { nx := fun _ H' => Q .non H', rt := Q } (start N vs) H) :
    FnG P w K mg base (k + 1) f sp := by
  obtain ⟨oc, od, kV, doc, pm, an, ct, osl, lk, hc, hB⟩ := M
  exact fg_of lk hc S hB hlen hbd
end

/-- what a code object must have beside its table -/
def codeOk (vs : Array Value) (c P : Addr) : Bool := (match (vs[11]? : Option Value) with | some (.ref P') => P' == P | _ => false) &&
  (match vs.getD 18 .none with | .str _ _ => true | _ => false) && (match vs.getD 7 .none with | .int _ _ => true | _ => false) &&
  (match vs.getD 9 .none with | .bool _ => true | _ => false) && (match vs.getD 10 .none with | .int _ _ => true | _ => false) && c != P
theorem codeHd_of {K : PySem.W.Frag} {c P : Addr} {d : Option Addr} {vs : Array Value} {sl : Array (Option Value)} (h : K.lookup c = some ⟨.type "code", d, .fields vs, sl⟩) (h2 : codeOk vs c P = true) : PySem.W.codeHdIn K c P = true := by
  unfold PySem.W.codeHdIn
  rw [h]
  exact h2

/-! ### [x.upper(), y.replace(".", ".."), ..] -/
def rUp : V → List V → Hp → VK → Prop := fun x xs H Q => ∃ a, x = .str a ∧ xs = [] ∧ a.length ≤ 5592405 ∧ Q (.str (Txt.upper a)) H
theorem pa_upRep {X : Cx} {o o2 : Expr} {es : List Expr} {to to2 : TE} {t : TA} {y z : Str} {j k : Nat} {ap1 p1 ap2 p2 c0 c1 : Pos} (ho : PE X o to) (ho2 : PE X o2 to2) (hr : PA X es t) (hyz : (y == z) = false := by decide)
    (hst : starEach [.Constant (.str y) j c0, .Constant (.str z) k c1] X.env = [(false, eval (.Constant (.str y) j c0) X.env), (false, eval (.Constant (.str z) k c1) X.env)] := by rfl)
    (hb1 : attributeBase o "upper" X.env (eval o X.env) = eval o X.env := by rfl) (hl1 : (ap1.endLine == p1.line) = true := by rfl)
    (hb2 : attributeBase o2 "replace" X.env (eval o2 X.env) = eval o2 X.env := by rfl) (hl2 : (ap2.endLine == p2.line) = true := by rfl)
    (hs : starEach (.Call (.Attribute o "upper" ap1) [] [] p1 :: .Call (.Attribute o2 "replace" ap2) [.Constant (.str y) j c0, .Constant (.str z) k c1] [] p2 :: es) X.env
      = (false, eval (.Call (.Attribute o "upper" ap1) [] [] p1) X.env) :: (false, eval (.Call (.Attribute o2 "replace" ap2) [.Constant (.str y) j c0, .Constant (.str z) k c1] [] p2) X.env) :: starEach es X.env := by rfl) :
    PA X (.Call (.Attribute o "upper" ap1) [] [] p1 :: .Call (.Attribute o2 "replace" ap2) [.Constant (.str y) j c0, .Constant (.str z) k c1] [] p2 :: es) (tCons (tM0 rUp to) (tCons (CwR.tReplC to2 y z) t)) := by
  refine ⟨fun pos pins s σ H Q I h => ?_⟩
  rw [hs]
  refine Calls.spliced_cons ?_
  refine PySem.Call_method0 hb1 hl1 (thn (ho.run pins s σ H _ I h) fun v s1 ⟨x, H1, I1, r1, q1⟩ => ?_)
  obtain ⟨⟨a, rfl⟩, b, eb, _, hlen, q1⟩ := q1
  obtain rfl : a = b := V.str.inj eb
  obtain ⟨tk, rfl⟩ := id r1
  refine ⟨"str", _, PySem.F.plainAttrs_str, PySem.F.slot_str_upper, PySem.F.type_str_upper, typeIs_str _ _ _, (fun _ e => nomatch e), Calls.callWith_builtin rfl (PySem.evalArgs_none ?_)⟩
  refine PySem.SC.upper (PyProof.Rows.short24 (by have := PyProof.Rows.len_upper a; omega)) ?_
  refine Calls.spliced_cons (thn (CwR.pet_replC ho2 hyz hst hb2 hl2 pins _ σ H1 _ (Nat.le_add_left 1 s1.toks) (I1.tok (s1.toks + 1)) q1) fun u s2 ⟨x2, H2, I2, r2, q2⟩ => ?_)
  exact thn (hr.run pos pins s2 σ H2 _ I2 q2) fun us s3 ⟨xs, H3, I3, r3, q3⟩ => ⟨V.str (Txt.upper a) :: x2 :: xs, H3, I3, .cons ⟨_, rfl⟩ (.cons r2 r3), q3⟩

/-! ### frames in which the tables of code may grow -/
theorem extN_of {H H' : Hp} (s : Same H H') : LamX.ExtN H H' := fun b o e _ => s b o e
theorem extN_sqt {K : PySem.W.Frag} {H H' : Hp} {a : Addr} {xs : List V} (e : LamX.ExtN H H') (h : SqT K H a xs) : SqT K H' a xs := by
  rcases h with (h | ⟨o, h⟩) | h
  · exact .inl (.inl (e _ _ h fun _ z => nomatch z))
  · exact .inl (.inr ⟨o, e _ _ h fun _ z => nomatch z⟩)
  · exact .inr h
theorem extN_sql {K : PySem.W.Frag} {H H' : Hp} {a : Addr} {xs : List V} (e : LamX.ExtN H H') (h : SqL K H a xs) : SqL K H' a xs := by
  rcases h with (h | ⟨o, h⟩) | h
  · exact .inl (.inl (e _ _ h fun _ z => nomatch z))
  · exact .inl (.inr ⟨o, e _ _ h fun _ z => nomatch z⟩)
  · exact .inr h
mutual
theorem extN_dp {K : PySem.W.Frag} {H H' : Hp} (e : LamX.ExtN H H') : ∀ (d : PyData) (v : V), Dp K H v d → Dp K H' v d
  | .none, _, h => by cases h; exact .non
  | .bool b, _, h => by cases h; exact .bl b
  | .int i, _, h => by cases h; exact .int i
  | .str x, _, h => by cases h; exact .str x
  | .list ds, _, h => by
    cases h with
    | lst h1 h2 => exact .lst (extN_sql e h1) (extN_dps e ds _ h2)
  | .tuple ds, _, h => by
    cases h with
    | tup h1 h2 => exact .tup (extN_sqt e h1) (extN_dps e ds _ h2)
  | .dict _, _, h => by cases h
theorem extN_dps {K : PySem.W.Frag} {H H' : Hp} (e : LamX.ExtN H H') : ∀ (ds : List PyData) (vs : List V), DpAll K H vs ds → DpAll K H' vs ds
  | [], _, h => by cases h; exact .nil
  | d :: ds, _, h => by
    cases h with
    | cons h1 h2 => exact .cons (extN_dp e d _ h1) (extN_dps e ds _ h2)
end
theorem extN_shw {K : PySem.W.Frag} {H H' : Hp} {v : V} {txt : Str} (e : LamX.ExtN H H') (h : Shw K H v txt) : Shw K H' v txt := by
  rcases h with ⟨d, h1, h2⟩ | ⟨a, h1, h2, h3⟩
  · exact .inl ⟨d, extN_dp e d v h1, h2⟩
  · exact .inr ⟨a, h1, e _ _ h2 (fun _ z => nomatch z), h3⟩
theorem tabs_same {T : List (Addr × Str)} {H H' : Hp} (t : LamX.Tabs T H) (s : Same H H') : LamX.Tabs T H' := t.ext s
/-- the tables stand where only an object that is no part of them changed -/
theorem tabs_but {T : List (Addr × Str)} {H H' : Hp} {p : Addr} {u : HO} (t : LamX.Tabs T H) (hp : H p = some u) (n1 : ∀ ps, u ≠ .tbl ps) (n2 : ∀ c q, u ≠ LamX.CodeO c q) (s : ∀ b o, b ≠ p → H b = some o → H' b = some o) : LamX.Tabs T H' := fun x hx => by
  obtain ⟨ps, h1, h2, h3⟩ := t x hx
  refine ⟨ps, s _ _ (fun e => ?_) h1, h2, fun pos cv hc => ?_⟩
  · rw [e, hp] at h1
    exact n1 ps (Option.some.inj h1)
  · obtain ⟨c, e1, e2⟩ := h3 pos cv hc
    refine ⟨c, e1, s _ _ (fun e => ?_) e2⟩
    rw [e, hp] at e2
    exact n2 _ _ (Option.some.inj e2)
/-- what keeps the tables and all else -/
theorem extN_trans {H H1 H2 : Hp} (a : LamX.ExtN H H1) (b : LamX.ExtN H1 H2) : LamX.ExtN H H2 := a.trans b
theorem extN_new {H : Hp} {p : Addr} {o : HO} (h : H p = none) : LamX.ExtN H (upd H p o) := fun b x e _ => by
  rw [upd_ne (ne_of_none e h)]
  exact e

/-! ### the end of a law whose defs make lambdas -/
theorem law_callt {P : Program} {w : World} {K : PySem.W.Frag} {mg mb : Str → Option Value} {k : Nat} {fa a c T : Addr} {sp : Sp} {st : Shared} {us : List Value} {ns : List Int}
    (KX : K.In st.heap) (hn : st.heap.Ns mainGlobals mg) (hb : st.heap.Ns builtinsNs mb) (hbb : ∀ x : Str, x ≠ "__name__" → mb x = bootBuiltins x) (nl : st.heap.NoLimit) (hgens : st.gens = #[])
    (hT : st.heap.get? T = some (PySem.W.tabObj #[])) (nT : K.lookup T = none) (hC : PySem.W.CodeHd st.heap c T)
    (hbm : ∃ (bm : Addr) (ob : Obj), mg "__builtins__" = some (.ref bm) ∧ bm ≠ builtinsNs ∧ st.heap.get? bm = some ob ∧ ob.cls = .type "module" ∧ ob.dict = some builtinsNs ∧ ob.data = .plain)
    (ha : st.heap.get? a = some { cls := .type "list", data := .seq us.toArray }) (hi : IntsAre us ns) (hz : ns.length ≤ sizeLine) (hr : Room k callerA)
    (F : ∀ base : Heap, K.In base → base.Ns mainGlobals mg → LamX.TabB base mg c T → FnG P w K mg base k fa sp)
    (hsp : ∀ H : Hp, H T = some (.tbl #[]) → SqL K H a (ns.map V.int) → sp [.ref a] H (fun v _ => v = .bl true) E0) :
    codeAny (model P w) callerA (.call (.ref fa) ⟨[.ref a], []⟩) (fun r s' => r = .ok (.ret (.bool true)) ∧ OldK st.heap s'.heap ∧ s'.os = st.os ∧ AllBare s'.gens) st := by
  have rv := vals_ints hi
  have hlen := hi.length
  have aT : a ≠ T := fun e => by
    rw [e, hT] at ha
    cases ha
  let S : HO := .frz { cls := .type "list", data := .seq us.toArray } (.lst (ns.map V.int))
  have key : ∀ H : Hp, (∀ b, H b = none ∨ (b = T ∧ H b = some (.tbl #[])) ∨ (b = a ∧ H b = some S)) → H T = some (.tbl #[]) → SqL K H a (ns.map V.int) → (H a ≠ none → K.lookup a = none) →
      codeAny (model P w) callerA (.call (.ref fa) ⟨[.ref a], []⟩) (fun r s' => r = .ok (.ret (.bool true)) ∧ OldK st.heap s'.heap ∧ s'.os = st.os ∧ AllBare s'.gens) st := by
    intro H hO hHT hS hK
    have hok : HOk P w H st.heap := fun b u z => by
      rcases hO b with n | ⟨e, n⟩ | ⟨e, n⟩
      · rw [z] at n
        cases n
      · rw [z] at n
        cases n
        rw [e]
        exact hT
      · rw [z] at n
        cases n
        rw [e]
        exact ⟨ha, by rw [List.length_map]; exact hz, us, _, rv, ha⟩
    -- what is no list of the script and no table is not told of
    have off : ∀ {b : Addr} {o : Obj}, st.heap.get? b = some o → (∀ vs n, o.data ≠ .seq vs n) → o.data ≠ .fields #[] → H b = none := fun {b o} e h1 h2 => by
      rcases hO b with n | ⟨e2, _⟩ | ⟨e2, _⟩
      · exact n
      · rw [e2, hT] at e
        cases e
        exact absurd rfl h2
      · rw [e2, ha] at e
        cases e
        exact absurd rfl (h1 _ _)
    have toNs : ∀ {b : Addr} {m : Str → Option Value}, st.heap.Ns b m → (hidT st.heap H).Ns b m := fun ⟨o, es, ep, e, d, r⟩ => ⟨o, es, ep, hidT_get e (off e (fun vs n z => by rw [d] at z; cases z) fun z => by rw [d] at z; cases z), d, r⟩
    have kb : K.In (hidT st.heap H) := fun b o e => hidT_get (KX b o e) (by
      rcases hO b with n | ⟨e2, _⟩ | ⟨e2, n⟩
      · exact n
      · rw [e2, nT] at e
        cases e
      · rw [e2, hK (by rw [← e2, n]; simp)] at e
        cases e)
    obtain ⟨mc, l1, l2⟩ := nl
    have M : Mod K mg (hidT st.heap H) := ⟨kb, toNs hn, ⟨mb, toNs hb, hbb⟩, ⟨mc, toNs l1, l2⟩⟩
    have TB : LamX.TabB (hidT st.heap H) mg c T := by
      refine ⟨?_, ?_, fun z => ?_⟩
      · obtain ⟨o, vs, file, tf, flags, tg, inF, text, tt, e1, r1, r2, r3, rest⟩ := hC
        refine ⟨o, vs, file, tf, flags, tg, inF, text, tt, hidT_get e1 (off e1 (fun vs n z => ?_) fun z => ?_), r1, r2, r3, rest⟩
        · rw [r2] at z
          cases z
        · rw [r2] at z
          cases z
          simp at r3
      · obtain ⟨bm, ob, b1, b2, b3, b4, b5, b6⟩ := hbm
        have g0 : bm ≠ mainGlobals := fun q => by
          obtain ⟨o, es, ep, e, d, _⟩ := hn
          rw [q, e] at b3
          cases b3
          rw [d] at b6
          cases b6
        have g1 : bm ≠ T := fun q => by
          rw [q, hT] at b3
          cases b3
          cases b6
        refine ⟨bm, ob, b1, b2, g0, g1, hidT_get b3 (off b3 (fun vs n z => ?_) fun z => ?_), b4, b5, b6⟩
        · rw [b6] at z
          cases z
        · rw [b6] at z
          cases z
      · obtain ⟨o, es, ep, e, d, _⟩ := hn
        rw [z, hT] at e
        cases e
        cases d
    have e0 : Env0 P w K mg (hidT st.heap H) callerA [] st H :=
      ⟨rfl, M, fun b o e => of_hidT e, Nat.le_of_eq (hidT_size _ _), trivial, fun b hb => absurd (show b ∈ ([] : List Addr) from hb) (by simp), hok, .of_eq hgens⟩
    refine codeAny_mono (F _ kb (toNs hn) TB callerA [] st H [.ref a] [.ref a] _ rfl hr e0 (.cons rfl .nil) (hsp H hHT hS)) fun r s' h => ?_
    match r, h with
    | .error e, h => exact h.elim
    | .ok .next, h => exact h.elim
    | .ok .brk, h => exact h.elim
    | .ok .cont, h => exact h.elim
    | .ok (.ret u), h =>
      obtain ⟨v, H', os, bare, un, hok', rr, q⟩ := h
      obtain rfl : v = .bl true := q
      obtain rfl : u = Value.bool true := rr
      obtain ⟨more, grown⟩ := un.tbls T #[] hHT
      have atT : s'.heap.get? T = some { cls := .none, data := .fields (#[] ++ more) } := hok' T _ grown
      have rest : ∀ b o, b ≠ T → st.heap.get? b = some o → s'.heap.get? b = some o := fun b o nb e => by
        rcases hO b with n | ⟨e2, _⟩ | ⟨e2, n⟩
        · exact un.keep b o e n (fun z => absurd (show b ∈ ([] : List Addr) from z) (by simp)) (by simp)
        · exact absurd e2 nb
        · obtain ⟨g1, _⟩ := hok b _ n
          obtain ⟨g2, _⟩ := hok' b _ (un.frzs b _ _ n)
          rw [e] at g1
          cases g1
          exact g2
      refine ⟨rfl, ⟨fun b o e => ?_, fun b o e => ?_⟩, os, bare⟩
      · by_cases hbT : b = T
        · subst hbT
          rw [hT] at e
          cases e
          exact .inr (.inl ⟨(hC.tab hT).isCodeTable, rfl, #[], more, rfl, by rw [Array.empty_append] at atT ⊢; exact atT⟩)
        · exact .inl (rest b o hbT e)
      · by_cases hbT : b = T
        · subst hbT
          exact ⟨_, atT⟩
        · exact ⟨o, rest b o hbT e⟩
  cases hk : K.lookup a with
  | some o =>
    have e := KX a o hk
    rw [ha] at e
    cases e
    refine key (fun b => if b = T then some (.tbl #[]) else none) (fun b => ?_) (if_pos rfl) (.inr ⟨_, us.toArray, _, hk, rfl, rfl, rfl, ?_, by simpa using rv⟩) fun z => absurd (if_neg aT) z
    · by_cases q : b = T
      · exact .inr (.inl ⟨q, if_pos q⟩)
      · exact .inl (if_neg q)
    · rw [List.size_toArray, hlen]
      exact hz
  | none =>
    refine key (fun b => if b = a then some S else if b = T then some (.tbl #[]) else none) (fun b => ?_) ((if_neg aT.symm).trans (if_pos rfl)) (.inl (.inr ⟨{ cls := .type "list", data := .seq us.toArray }, if_pos rfl⟩)) fun _ => hk
    by_cases q : b = a
    · exact .inr (.inr ⟨q, if_pos q⟩)
    · by_cases q2 : b = T
      · exact .inr (.inl ⟨q2, (if_neg q).trans (if_pos q2)⟩)
      · exact .inl ((if_neg q).trans (if_neg q2))

theorem walk_t {l : PySem.W.OpenLaw} {n k : Nat} {q : Program} {loose : List Str} {XP : (Str → Option Value) → Heap → Prop} {YP : World → Heap → Prop} {d : DefRec} {K : Params → PySem.W.Frag} {sp : Addr → PySem.W.Frag → Sp}
    (hn : l.most = some n) (hn2 : n ≤ sizeLine) (hdf : d.params.defaults = []) (hr : Room k callerA) (hY : ∀ (w : World) (h : Heap), YP w h → (K w.params).In h)
    (F : ∀ (w : World) (mg : Str → Option Value) (fa : Addr) (h : Heap), YP w h → (K w.params).In h → h.Ns mainGlobals mg → mg d.name = some (.ref fa) →
      ∃ c T : Addr, h.get? T = some (PySem.W.tabObj #[]) ∧ (K w.params).lookup T = none ∧ PySem.W.CodeHd h c T ∧
        ∀ base : Heap, (K w.params).In base → base.Ns mainGlobals mg → LamX.TabB base mg c T → FnG l.prog w (K w.params) mg base k fa (sp T (K w.params)))
    (hsp : ∀ (T : Addr) (K : PySem.W.Frag) (H : Hp) (a : Addr) (ns : List Int), ns.length ≤ n → H T = some (.tbl #[]) → SqL K H a (ns.map V.int) → sp T K [.ref a] H (fun v _ => v = .bl true) E0) :
    PySem.W.WalkO q loose XP YP l.row.toRowW d [] (fun f vs => PySem.call f vs) := by
  refine Att.attach_call hn hdf fun w s₀ s₁ mg mb fa o pm cd doc a vs ns G Y ho hd hcd hmg hobj hints hlen hg => ?_
  have KX := hY w _ Y
  obtain ⟨c, T, hT, nT, hC, hF⟩ := F w mg fa _ Y KX G.T.g hmg
  exact law_callt KX G.T.g G.T.b G.T.builtins G.T.nolimit hg hT nT hC G.T.bmain hobj hints (Nat.le_trans hlen hn2) hr hF fun H hH hS => hsp T _ H a ns hlen hH hS
end MH
/-! More small rules: t == (), star defs that raise, c.m() of a class, calls that may raise but do not, the end of a law with several tables of code. -/
namespace MH
open PySem PySem.Spec PyProof.Rows L2

/-! ### t == () -/
def rEqT0 (K : PySem.W.Frag) : R2 := fun x y H Q => ∃ (a b : Addr) (xs : List V), x = .ref a ∧ y = .ref b ∧ SqT K H a xs ∧ SqT K H b [] ∧ Q (.bl (decide (xs = []))) H
theorem op_eqT0 {X : Cx} (hu : X.A.units < cLine) : OpR X (compareOp .Eq) (rEqT0 X.K) := by
  intro pins s σ H x y v u Q I rx ry h
  obtain ⟨a, b, xs, rfl, rfl, ha, hb, q⟩ := h
  obtain rfl : v = Value.ref a := rx
  obtain rfl : u = Value.ref b := ry
  obtain ⟨its, rv, pl, hlen⟩ := I.tuple ha
  obtain ⟨its2, rv2, pl2, _⟩ := I.tuple hb
  cases rv2
  have e : ((List.range (min its.toArray.size ([] : List Value).toArray.size)).all (fun _ => true) && its.toArray.size == ([] : List Value).toArray.size) = decide (xs = []) := by
    have hl := rv.length
    cases xs with
    | nil =>
      have : its = [] := List.length_eq_zero_iff.mp hl.symm
      subst this
      rfl
    | cons x r =>
      cases its with
      | nil => cases hl
      | cons y t => simp
  have q2 : EP X pins σ Q (.bool (decide (xs = []))) s := ⟨.bl _, H, I, rfl, q⟩
  rw [← e] at q2
  exact SeqAt.RcAt.tuples (e := fun _ => true) pl pl2 hu (fun j h1 h2 => absurd h2 (by simp)) X.prog X.w _ _ q2

/-! ### calls that may raise and do not -/
theorem pass00 {X : Cx} : Passes (L2.CX X.prog X.w) X E0 := passes_call LamX.takes0 fun _ _ _ _ h => h

/-! ### star defs that raise -/
theorem cxnew {P : Program} {w : World} : CXNew (L2.CX P w) := by
  intro outer s H h2 p rest E e s' more hp np h
  obtain ⟨a, B, H', cls, d, e1, fl, hok, ub, na, os, ag, q⟩ := h
  have off : ∀ b o, s.heap.get? b = some o → b ≠ p := fun b o e z => by
    have q : b < s.heap.objs.size := Heap.lt_size e
    rw [z] at q
    exact absurd hp (Nat.not_le_of_lt q)
  refine ⟨a, B, H', cls, d, e1, fl, hok, ⟨fun b o e n hx => ?_, fun b o e m => ?_, fun b o e n => ?_, fun b o e m => ?_, fun b xs e => ?_, fun b o u e => ?_, fun b ps e => ?_⟩, na, os, ag, q⟩
  · exact ub.keep b o (more _ _ e) (by rw [upd_ne (off b o e)]; exact n) hx
  · exact ub.slot b o (more _ _ e) m
  · exact ub.free b o (more _ _ e) (by rw [upd_ne (off b o e)]; exact n)
  · exact ub.there b o (more _ _ e) m
  · exact ub.tups b xs (by rw [upd_ne (ne_of_none e np)]; exact e)
  · exact ub.frzs b o u (by rw [upd_ne (ne_of_none e np)]; exact e)
  · exact ub.tbls b ps (by rw [upd_ne (ne_of_none e np)]; exact e)
theorem fun_starX {k n : Nat} {P : Program} {w : World} {K : PySem.W.Frag} {mg : Str → Option Value} {base : Heap} {f : Addr} {x qual pa pv : Str} {st : Stmt} {fd : FuncData} {N : List Str} {sp : Sp} (F : Fun K x qual st f fd) (S : FnScope N [pa, pv] (defScope st)) (hn : n ≤ sizeLine)
    (hb : ∀ (u : Value) (rest : List Value), rest.length ≤ n → bindArgs fd ⟨u :: rest, []⟩ = (newTuple rest >>= fun t => pure [(pa, u), (pv, t)]))
    (hbd : ∀ (cdv : Value) (A : Around) (outer : List Env) (s : Shared) (H : Hp) (vs : List V) (Q : VK) (E : XK), Room k (A.deeper (envOfC qual (defScope st) s.heap.objs.size f cdv)) → sp vs H Q E →
      ∃ t, PSs (cxOf (L2.CX P w) P w K mg base N qual (defScope st) f cdv A outer s H E) (defBody st) t ∧ t { nx := fun _ H' => Q .non H', rt := Q } (start N vs) H) :
    FnR P w K mg base (L2.CX P w) (k + 1) f (fun vs H Q E => ∃ v rest, vs = v :: rest ∧ rest.length ≤ n ∧ ∀ p, H p = none → sp [v, .ref p] (upd H p (.tup rest)) Q E) := by
  obtain ⟨oc, od, kV, doc, pm, an, cdv, ct, osl, rfl, lk, hc⟩ := F.ex
  exact fn_ofV (CX := L2.CX P w) (sp := sp) lk hc S (nmax := n) hn hb cxnew fun A outer s H vs Q E hr h => hbd cdv A outer s H vs Q E hr h
theorem bindV11 {fd : FuncData} {pa pv : Str} (h : ∀ (n : Nat), n ≤ 11 → ∀ (u : Value) (rest : List Value), rest.length = n → bindArgs fd ⟨u :: rest, []⟩ = (newTuple rest >>= fun t => pure [(pa, u), (pv, t)])) :
    ∀ (u : Value) (rest : List Value), rest.length ≤ 11 → bindArgs fd ⟨u :: rest, []⟩ = (newTuple rest >>= fun t => pure [(pa, u), (pv, t)]) := fun u rest h2 => h rest.length h2 u rest rfl

/-! ### c.m(), m a classmethod -/
def tCMeth0 (C : Addr) (sp : Sp) (E : XK) (ta : TE) : TE := fun σ H Q => ta σ H fun x H1 => x = .ref C ∧ sp [.ref C] H1 Q E
section
variable {X : Cx} {CX : CXT} {k : Nat} {f C : Addr} {sp : Sp} {E : XK}
theorem pe_cmeth0 {p : Addr} {mc : Value} {o : Expr} {m : Str} {apos pos : Pos} {ta : TE} {pl : Sem Bool} (he : PE X o ta) (r : ClX.CRead X.K C mc) (c : ClX.CMet X.K C mc m p f)
    (F : FnR X.prog X.w X.K X.mg X.base CX k f sp) (hr : Room k X.A) (hx : Passes CX X E)
    (ht : eval (.Call (.Attribute o m apos) [] [] pos) X.env = (do
      let ov ← eval o X.env
      standAt apos.atName
      let (f, first) ← holding [ov] (getMethod ov m pl)
      callWith pos f first (backTo pos (starEach [] X.env)) (backToKw pos (keywordEach [] X.env))) := by rfl) :
    PE X (.Call (.Attribute o m apos) [] [] pos) (tCMeth0 C sp E ta) := by
  refine ⟨fun pins s σ H Q I h => ?_⟩
  refine PySem.W.methodCall_KW (pl := pl) (thn (he.run pins s σ H _ I h) fun u s1 ⟨x, H1, I1, rx, ex, q⟩ => ?_) ht
  subst ex
  obtain rfl : u = Value.ref C := rx
  refine ClX.getmethcm_ok I1 r c fun s2 I2 => ?_
  refine PySem.W.callWith_of (P := PySem.W.MethP X.K s1.heap.objs.size f (.ref C)) (by rfl) (PySem.W.keeps_M c.fi) (PySem.evalArgs_none ⟨⟨ClX.pin_at I2, I2.kIn⟩, ?_⟩)
  have r1 : Vals [V.ref C] [Value.ref C] := .cons rfl .nil
  have z : wpAny (model X.prog X.w) X.A (call (.ref s1.heap.objs.size) [] []) (EP X ((s1.heap.objs.size, PySem.W.methodObj (.ref f) (.ref C)) :: pins) σ Q) X.xe s2 := by
    refine wpAny_call (PySem.W.method_call (ClX.pin_at I2) ?_)
    exact run_fnR F hr hx I2 r1 q
  exact thn z fun _ _ y => ClX.unpinE y
end

/-! ### the end of a law whose defs make lambdas: several tables -/
theorem law_calltL {P : Program} {w : World} {K : PySem.W.Frag} {mg mb : Str → Option Value} {k : Nat} {fa a : Addr} {cs : List (Addr × Addr)} {sp : Sp} {st : Shared} {us : List Value} {ns : List Int}
    (KX : K.In st.heap) (hn : st.heap.Ns mainGlobals mg) (hb : st.heap.Ns builtinsNs mb) (hbb : ∀ x : Str, x ≠ "__name__" → mb x = bootBuiltins x) (nl : st.heap.NoLimit) (hgens : st.gens = #[])
    (hT0 : ∀ p ∈ cs, st.heap.get? p.2 = some (PySem.W.tabObj #[])) (nT0 : ∀ p ∈ cs, K.lookup p.2 = none) (hC0 : ∀ p ∈ cs, PySem.W.CodeHd st.heap p.1 p.2)
    (hbm : ∃ (bm : Addr) (ob : Obj), mg "__builtins__" = some (.ref bm) ∧ bm ≠ builtinsNs ∧ st.heap.get? bm = some ob ∧ ob.cls = .type "module" ∧ ob.dict = some builtinsNs ∧ ob.data = .plain)
    (ha : st.heap.get? a = some { cls := .type "list", data := .seq us.toArray }) (hi : IntsAre us ns) (hz : ns.length ≤ sizeLine) (hr : Room k callerA)
    (F : ∀ base : Heap, K.In base → base.Ns mainGlobals mg → (∀ p ∈ cs, LamX.TabB base mg p.1 p.2) → FnG P w K mg base k fa sp)
    (hsp : ∀ H : Hp, (∀ p ∈ cs, H p.2 = some (.tbl #[])) → SqL K H a (ns.map V.int) → sp [.ref a] H (fun v _ => v = .bl true) E0) :
    codeAny (model P w) callerA (.call (.ref fa) ⟨[.ref a], []⟩) (fun r s' => r = .ok (.ret (.bool true)) ∧ OldK st.heap s'.heap ∧ s'.os = st.os ∧ AllBare s'.gens) st := by
  have rv := vals_ints hi
  have hlen := hi.length
  let TS : List Addr := cs.map Prod.snd
  have inTS : ∀ {b : Addr}, b ∈ TS → ∃ p ∈ cs, p.2 = b := fun h => List.mem_map.mp h
  have hT : ∀ b ∈ TS, st.heap.get? b = some (PySem.W.tabObj #[]) := fun b h => by
    obtain ⟨p, hp, rfl⟩ := inTS h
    exact hT0 p hp
  have nT : ∀ b ∈ TS, K.lookup b = none := fun b h => by
    obtain ⟨p, hp, rfl⟩ := inTS h
    exact nT0 p hp
  have aT : a ∉ TS := fun e => by
    rw [hT a e] at ha
    cases ha
  let S : HO := .frz { cls := .type "list", data := .seq us.toArray } (.lst (ns.map V.int))
  have key : ∀ H : Hp, (∀ b, H b = none ∨ (b ∈ TS ∧ H b = some (.tbl #[])) ∨ (b = a ∧ H b = some S)) → (∀ b ∈ TS, H b = some (.tbl #[])) → SqL K H a (ns.map V.int) → (H a ≠ none → K.lookup a = none) →
      codeAny (model P w) callerA (.call (.ref fa) ⟨[.ref a], []⟩) (fun r s' => r = .ok (.ret (.bool true)) ∧ OldK st.heap s'.heap ∧ s'.os = st.os ∧ AllBare s'.gens) st := by
    intro H hO hHT hS hK
    have hok : HOk P w H st.heap := fun b u z => by
      rcases hO b with n | ⟨e, n⟩ | ⟨e, n⟩
      · rw [z] at n
        cases n
      · rw [z] at n
        cases n
        exact hT b e
      · rw [z] at n
        cases n
        rw [e]
        exact ⟨ha, by rw [List.length_map]; exact hz, us, _, rv, ha⟩
    -- what is no list of the script and no table is not told of
    have off : ∀ {b : Addr} {o : Obj}, st.heap.get? b = some o → (∀ vs n, o.data ≠ .seq vs n) → o.data ≠ .fields #[] → H b = none := fun {b o} e h1 h2 => by
      rcases hO b with n | ⟨e2, _⟩ | ⟨e2, _⟩
      · exact n
      · rw [hT b e2] at e
        cases e
        exact absurd rfl h2
      · rw [e2, ha] at e
        cases e
        exact absurd rfl (h1 _ _)
    have toNs : ∀ {b : Addr} {m : Str → Option Value}, st.heap.Ns b m → (hidT st.heap H).Ns b m := fun ⟨o, es, ep, e, d, r⟩ => ⟨o, es, ep, hidT_get e (off e (fun vs n z => by rw [d] at z; cases z) fun z => by rw [d] at z; cases z), d, r⟩
    have kb : K.In (hidT st.heap H) := fun b o e => hidT_get (KX b o e) (by
      rcases hO b with n | ⟨e2, _⟩ | ⟨e2, n⟩
      · exact n
      · rw [nT b e2] at e
        cases e
      · rw [e2, hK (by rw [← e2, n]; simp)] at e
        cases e)
    obtain ⟨mc, l1, l2⟩ := nl
    have M : Mod K mg (hidT st.heap H) := ⟨kb, toNs hn, ⟨mb, toNs hb, hbb⟩, ⟨mc, toNs l1, l2⟩⟩
    have TB : ∀ p ∈ cs, LamX.TabB (hidT st.heap H) mg p.1 p.2 := by
      intro pp hpp
      have hTp := hT0 pp hpp
      refine ⟨?_, ?_, fun z => ?_⟩
      · obtain ⟨o, vs, file, tf, flags, tg, inF, text, tt, e1, r1, r2, r3, rest⟩ := hC0 pp hpp
        refine ⟨o, vs, file, tf, flags, tg, inF, text, tt, hidT_get e1 (off e1 (fun vs n z => ?_) fun z => ?_), r1, r2, r3, rest⟩
        · rw [r2] at z
          cases z
        · rw [r2] at z
          cases z
          simp at r3
      · obtain ⟨bm, ob, b1, b2, b3, b4, b5, b6⟩ := hbm
        have g0 : bm ≠ mainGlobals := fun q => by
          obtain ⟨o, es, ep, e, d, _⟩ := hn
          rw [q, e] at b3
          cases b3
          rw [d] at b6
          cases b6
        have g1 : bm ≠ pp.2 := fun q => by
          rw [q, hTp] at b3
          cases b3
          cases b6
        refine ⟨bm, ob, b1, b2, g0, g1, hidT_get b3 (off b3 (fun vs n z => ?_) fun z => ?_), b4, b5, b6⟩
        · rw [b6] at z
          cases z
        · rw [b6] at z
          cases z
      · obtain ⟨o, es, ep, e, d, _⟩ := hn
        rw [z, hTp] at e
        cases e
        cases d
    have e0 : Env0 P w K mg (hidT st.heap H) callerA [] st H :=
      ⟨rfl, M, fun b o e => of_hidT e, Nat.le_of_eq (hidT_size _ _), trivial, fun b hb => absurd (show b ∈ ([] : List Addr) from hb) (by simp), hok, .of_eq hgens⟩
    refine codeAny_mono (F _ kb (toNs hn) TB callerA [] st H [.ref a] [.ref a] _ rfl hr e0 (.cons rfl .nil) (hsp H (fun p hp => hHT _ (List.mem_map_of_mem hp)) hS)) fun r s' h => ?_
    match r, h with
    | .error e, h => exact h.elim
    | .ok .next, h => exact h.elim
    | .ok .brk, h => exact h.elim
    | .ok .cont, h => exact h.elim
    | .ok (.ret u), h =>
      obtain ⟨v, H', os, bare, un, hok', rr, q⟩ := h
      obtain rfl : v = .bl true := q
      obtain rfl : u = Value.bool true := rr
      have atT : ∀ b ∈ TS, ∃ more : Array Value, s'.heap.get? b = some { cls := .none, data := .fields (#[] ++ more) } := fun b hb => by
        obtain ⟨more, grown⟩ := un.tbls b #[] (hHT b hb)
        exact ⟨more, hok' b _ grown⟩
      have rest : ∀ b o, b ∉ TS → st.heap.get? b = some o → s'.heap.get? b = some o := fun b o nb e => by
        rcases hO b with n | ⟨e2, _⟩ | ⟨e2, n⟩
        · exact un.keep b o e n (fun z => absurd (show b ∈ ([] : List Addr) from z) (by simp)) (by simp)
        · exact absurd e2 nb
        · obtain ⟨g1, _⟩ := hok b _ n
          obtain ⟨g2, _⟩ := hok' b _ (un.frzs b _ _ n)
          rw [e] at g1
          cases g1
          exact g2
      refine ⟨rfl, ⟨fun b o e => ?_, fun b o e => ?_⟩, os, bare⟩
      · by_cases hbT : b ∈ TS
        · obtain ⟨more, at2⟩ := atT b hbT
          obtain ⟨p, hp, rfl⟩ := inTS hbT
          rw [hT0 p hp] at e
          cases e
          exact .inr (.inl ⟨((hC0 p hp).tab (hT0 p hp)).isCodeTable, rfl, #[], more, rfl, by rw [Array.empty_append] at at2 ⊢; exact at2⟩)
        · exact .inl (rest b o hbT e)
      · by_cases hbT : b ∈ TS
        · obtain ⟨more, at2⟩ := atT b hbT
          exact ⟨_, at2⟩
        · exact ⟨o, rest b o hbT e⟩
  cases hk : K.lookup a with
  | some o =>
    have e := KX a o hk
    rw [ha] at e
    cases e
    refine key (fun b => if b ∈ TS then some (.tbl #[]) else none) (fun b => ?_) (fun b hb => if_pos hb) (.inr ⟨_, us.toArray, _, hk, rfl, rfl, rfl, ?_, by simpa using rv⟩) fun z => absurd (if_neg aT) z
    · by_cases q : b ∈ TS
      · exact .inr (.inl ⟨q, if_pos q⟩)
      · exact .inl (if_neg q)
    · rw [List.size_toArray, hlen]
      exact hz
  | none =>
    refine key (fun b => if b = a then some S else if b ∈ TS then some (.tbl #[]) else none) (fun b => ?_) (fun b hb => (if_neg (fun e : b = a => aT (by rw [← e]; exact hb))).trans (if_pos hb)) (.inl (.inr ⟨{ cls := .type "list", data := .seq us.toArray }, if_pos rfl⟩)) fun _ => hk
    by_cases q : b = a
    · exact .inr (.inr ⟨q, if_pos q⟩)
    · by_cases q2 : b ∈ TS
      · exact .inr (.inl ⟨q2, (if_neg q).trans (if_pos q2)⟩)
      · exact .inl ((if_neg q).trans (if_neg q2))

theorem walk_tL {l : PySem.W.OpenLaw} {n k : Nat} {q : Program} {loose : List Str} {XP : (Str → Option Value) → Heap → Prop} {YP : World → Heap → Prop} {d : DefRec} {K : Params → PySem.W.Frag} {sp : List Addr → PySem.W.Frag → Sp}
    (hn : l.most = some n) (hn2 : n ≤ sizeLine) (hdf : d.params.defaults = []) (hr : Room k callerA) (hY : ∀ (w : World) (h : Heap), YP w h → (K w.params).In h)
    (F : ∀ (w : World) (mg : Str → Option Value) (fa : Addr) (h : Heap), YP w h → (K w.params).In h → h.Ns mainGlobals mg → mg d.name = some (.ref fa) →
      ∃ cs : List (Addr × Addr), (∀ p ∈ cs, h.get? p.2 = some (PySem.W.tabObj #[])) ∧ (∀ p ∈ cs, (K w.params).lookup p.2 = none) ∧ (∀ p ∈ cs, PySem.W.CodeHd h p.1 p.2) ∧
        ∀ base : Heap, (K w.params).In base → base.Ns mainGlobals mg → (∀ p ∈ cs, LamX.TabB base mg p.1 p.2) → FnG l.prog w (K w.params) mg base k fa (sp (cs.map Prod.snd) (K w.params)))
    (hsp : ∀ (TS : List Addr) (K : PySem.W.Frag) (H : Hp) (a : Addr) (ns : List Int), ns.length ≤ n → (∀ T ∈ TS, H T = some (.tbl #[])) → SqL K H a (ns.map V.int) → sp TS K [.ref a] H (fun v _ => v = .bl true) E0) :
    PySem.W.WalkO q loose XP YP l.row.toRowW d [] (fun f vs => PySem.call f vs) := by
  refine Att.attach_call hn hdf fun w s₀ s₁ mg mb fa o pm cd doc a vs ns G Y ho hd hcd hmg hobj hints hlen hg => ?_
  have KX := hY w _ Y
  obtain ⟨cs, hT, nT, hC, hF⟩ := F w mg fa _ Y KX G.T.g hmg
  exact law_calltL KX G.T.g G.T.b G.T.builtins G.T.nolimit hg hT nT hC G.T.bmain hobj hints (Nat.le_trans hlen hn2) hr hF fun H hH hS => hsp _ _ H a ns hlen (fun T hT => by obtain ⟨p, hp, rfl⟩ := List.mem_map.mp hT; exact hH p hp) hS
end MH
namespace MH
open PySem PySem.Spec PyProof.Rows L2
def topS (i : Nat) : Stmt := PySem.Challenge.pw_menuhouses_k03_rankings_refused.main.body.getD i (.Pass ⟨0, 0, 0, 0⟩)
abbrev st_is_name : Stmt := topS 22
abbrev names_is_name : List Str := ["value", "sign"]
theorem sc_is_name : FnScope names_is_name ["value"] (defScope st_is_name) := ⟨rfl, rfl, rfl, by decide +kernel, rfl, by decide +kernel, by decide +kernel⟩
abbrev st_is_filled_tuple : Stmt := topS 23
abbrev names_is_filled_tuple : List Str := ["value"]
theorem sc_is_filled_tuple : FnScope names_is_filled_tuple ["value"] (defScope st_is_filled_tuple) := ⟨rfl, rfl, rfl, by decide +kernel, rfl, by decide +kernel, by decide +kernel⟩
abbrev st_first_wrong_in_row : Stmt := topS 25
abbrev names_first_wrong_in_row : List Str := ["row", "at", "name"]
theorem sc_first_wrong_in_row : FnScope names_first_wrong_in_row ["row"] (defScope st_first_wrong_in_row) := ⟨rfl, rfl, rfl, by decide +kernel, rfl, by decide +kernel, by decide +kernel⟩
abbrev st_check_row : Stmt := topS 27
abbrev names_check_row : List Str := ["row", "wrong"]
theorem sc_check_row : FnScope names_check_row ["row"] (defScope st_check_row) := ⟨rfl, rfl, rfl, by decide +kernel, rfl, by decide +kernel, by decide +kernel⟩
abbrev st_RankingD_initD : Stmt := inClass (topS 30) 0
abbrev names_RankingD_initD : List Str := ["self", "row"]
theorem sc_RankingD_initD : FnScope names_RankingD_initD ["self", "row"] (defScope st_RankingD_initD) := ⟨rfl, rfl, rfl, by decide +kernel, rfl, by decide +kernel, by decide +kernel⟩
abbrev st_Ranking_of : Stmt := inClass (topS 30) 1
abbrev names_Ranking_of : List Str := ["cls", "names"]
theorem sc_Ranking_of : FnScope names_Ranking_of ["cls", "names"] (defScope st_Ranking_of) := ⟨rfl, rfl, rfl, by decide +kernel, rfl, by decide +kernel, by decide +kernel⟩
abbrev st_RankingD_strD : Stmt := inClass (topS 30) 14
abbrev names_RankingD_strD : List Str := ["self"]
theorem sc_RankingD_strD : FnScope names_RankingD_strD ["self"] (defScope st_RankingD_strD) := ⟨rfl, rfl, rfl, by decide +kernel, rfl, by decide +kernel, by decide +kernel⟩
abbrev st_InvalidRowD_initD : Stmt := inClass (topS 8) 0
abbrev names_InvalidRowD_initD : List Str := ["self", "index"]
theorem sc_InvalidRowD_initD : FnScope names_InvalidRowD_initD ["self", "index"] (defScope st_InvalidRowD_initD) := ⟨rfl, rfl, rfl, by decide +kernel, rfl, by decide +kernel, by decide +kernel⟩
abbrev st_l_purse : Stmt := topS 32
abbrev names_l_purse : List Str := ["_law_script", "_law_spot", "_law_cell", "_law_seed", "_law_one"]
theorem sc_l_purse : FnScope names_l_purse ["_law_script", "_law_spot"] (defScope st_l_purse) := ⟨rfl, rfl, rfl, by decide +kernel, rfl, by decide +kernel, by decide +kernel⟩
abbrev st_l_draw : Stmt := topS 33
abbrev names_l_draw : List Str := ["_law_purse_here", "_law_many", "_law_digit"]
theorem sc_l_draw : FnScope names_l_draw ["_law_purse_here", "_law_many"] (defScope st_l_draw) := ⟨rfl, rfl, rfl, by decide +kernel, rfl, by decide +kernel, by decide +kernel⟩
abbrev st_l_things : Stmt := topS 34
abbrev names_l_things : List Str := ["_law_purse_here", "_law_many", "_law_pool", "_law_found", "_law_turn"]
theorem sc_l_things : FnScope names_l_things ["_law_purse_here", "_law_many"] (defScope st_l_things) := ⟨rfl, rfl, rfl, by decide +kernel, rfl, by decide +kernel, by decide +kernel⟩
abbrev st_l_order : Stmt := topS 35
abbrev names_l_order : List Str := ["_law_purse_here", "_law_things_here", "_law_left", "_law_found", "_law_turn"]
theorem sc_l_order : FnScope names_l_order ["_law_purse_here", "_law_things_here"] (defScope st_l_order) := ⟨rfl, rfl, rfl, by decide +kernel, rfl, by decide +kernel, by decide +kernel⟩
abbrev st_l_sort : Stmt := topS 36
abbrev names_l_sort : List Str := ["_law_e", "_law_words", "_law_flags", "_law_bases", "_law_at"]
theorem sc_l_sort : FnScope names_l_sort ["_law_e"] (defScope st_l_sort) := ⟨rfl, rfl, rfl, by decide +kernel, rfl, by decide +kernel, by decide +kernel⟩
abbrev st_l_attribute : Stmt := topS 37
abbrev names_l_attribute : List Str := ["_law_e", "_law_word"]
theorem sc_l_attribute : FnScope names_l_attribute ["_law_e", "_law_word"] (defScope st_l_attribute) := ⟨rfl, rfl, rfl, by decide +kernel, rfl, by decide +kernel, by decide +kernel⟩
abbrev st_l_told : Stmt := topS 38
abbrev names_l_told : List Str := ["_law_act", "_law_shown", "_law_e", "_law_word"]
theorem sc_l_told : FnScope names_l_told ["_law_act"] (defScope st_l_told) := ⟨rfl, rfl, rfl, by decide +kernel, rfl, by decide +kernel, by decide +kernel⟩
abbrev st_l_is_name : Stmt := topS 39
abbrev names_l_is_name : List Str := ["_law_name", "_law_letters", "_law_sign"]
theorem sc_l_is_name : FnScope names_l_is_name ["_law_name"] (defScope st_l_is_name) := ⟨rfl, rfl, rfl, by decide +kernel, rfl, by decide +kernel, by decide +kernel⟩
abbrev st_l_wrong : Stmt := topS 40
abbrev names_l_wrong : List Str := ["_law_rank", "_law_k"]
theorem sc_l_wrong : FnScope names_l_wrong ["_law_rank"] (defScope st_l_wrong) := ⟨rfl, rfl, rfl, by decide +kernel, rfl, by decide +kernel, by decide +kernel⟩
abbrev st_l_due : Stmt := topS 41
abbrev names_l_due : List Str := ["_law_rank", "_law_wrong_here"]
theorem sc_l_due : FnScope names_l_due ["_law_rank"] (defScope st_l_due) := ⟨rfl, rfl, rfl, by decide +kernel, rfl, by decide +kernel, by decide +kernel⟩
abbrev st_l_made : Stmt := topS 42
abbrev names_l_made : List Str := ["_law_rank"]
theorem sc_l_made : FnScope names_l_made ["_law_rank"] (defScope st_l_made) := ⟨rfl, rfl, rfl, by decide +kernel, rfl, by decide +kernel, by decide +kernel⟩
abbrev st_l_right : Stmt := topS 43
abbrev names_l_right : List Str := ["_law_purse_here", "_law_things_here", "_law_rank", "_law_odd", "_law_turn", "_law_change", "_law_at", "_law_way", "_law_thing", "_law_eleven", "_law_bent", "_law_names", "_law_k"]
theorem sc_l_right : FnScope names_l_right ["_law_purse_here"] (defScope st_l_right) := ⟨rfl, rfl, rfl, by decide +kernel, rfl, by decide +kernel, by decide +kernel⟩
abbrev st_law : Stmt := topS 44
abbrev names_law : List Str := ["_law_script", "_law_spot"]
theorem sc_law : FnScope names_law ["_law_script"] (defScope st_law) := ⟨rfl, rfl, rfl, by decide +kernel, rfl, by decide +kernel, by decide +kernel⟩
structure Tx (K : PySem.W.Frag) (mg : Str → Option Value) where
  E_WrongValue : Addr
  g_WrongValue : mg "WrongValue" = some (.ref E_WrongValue)
  E_InvalidText : Addr
  g_InvalidText : mg "InvalidText" = some (.ref E_InvalidText)
  E_InvalidIndex : Addr
  g_InvalidIndex : mg "InvalidIndex" = some (.ref E_InvalidIndex)
  E_NotARanking : Addr
  g_NotARanking : mg "NotARanking" = some (.ref E_NotARanking)
  E_NotAHouse : Addr
  g_NotAHouse : mg "NotAHouse" = some (.ref E_NotAHouse)
  E_OtherThings : Addr
  g_OtherThings : mg "OtherThings" = some (.ref E_OtherThings)
  E_InvalidRow : Addr
  g_InvalidRow : mg "InvalidRow" = some (.ref E_InvalidRow)
  E_InvalidMenu : Addr
  g_InvalidMenu : mg "InvalidMenu" = some (.ref E_InvalidMenu)
  E_InvalidRankings : Addr
  g_InvalidRankings : mg "InvalidRankings" = some (.ref E_InvalidRankings)
  E_WrongName : Addr
  g_WrongName : mg "WrongName" = some (.ref E_WrongName)
  E_UnknownThing : Addr
  g_UnknownThing : mg "UnknownThing" = some (.ref E_UnknownThing)
  E_NoAnswer : Addr
  g_NoAnswer : mg "NoAnswer" = some (.ref E_NoAnswer)
  E_TooMany : Addr
  g_TooMany : mg "TooMany" = some (.ref E_TooMany)
  E_NoHouse : Addr
  g_NoHouse : mg "NoHouse" = some (.ref E_NoHouse)
  ox_InvalidRow : OexC K E_InvalidRow
  ek_InvalidRow : ExcK K E_InvalidRow
  no_InvalidRow_index : PySem.W.findIn K (.ref E_InvalidRow) "index" = some none
  em_InvalidRow : PySem.W.exmAny K (.ref E_InvalidRow) [.ref E_WrongValue, .ref E_WrongName, .ref E_NoAnswer] = some true
  kf_InvalidRow_WrongValue : PySem.W.kitOne K (.ref E_InvalidRow) (.ref E_WrongValue) = some true
  kf_InvalidRow_InvalidText : PySem.W.kitOne K (.ref E_InvalidRow) (.ref E_InvalidText) = some false
  kf_InvalidRow_InvalidIndex : PySem.W.kitOne K (.ref E_InvalidRow) (.ref E_InvalidIndex) = some false
  kf_InvalidRow_NotARanking : PySem.W.kitOne K (.ref E_InvalidRow) (.ref E_NotARanking) = some false
  kf_InvalidRow_NotAHouse : PySem.W.kitOne K (.ref E_InvalidRow) (.ref E_NotAHouse) = some false
  kf_InvalidRow_OtherThings : PySem.W.kitOne K (.ref E_InvalidRow) (.ref E_OtherThings) = some false
  kf_InvalidRow_InvalidRow : PySem.W.kitOne K (.ref E_InvalidRow) (.ref E_InvalidRow) = some true
  kf_InvalidRow_InvalidMenu : PySem.W.kitOne K (.ref E_InvalidRow) (.ref E_InvalidMenu) = some false
  kf_InvalidRow_InvalidRankings : PySem.W.kitOne K (.ref E_InvalidRow) (.ref E_InvalidRankings) = some false
  kf_InvalidRow_WrongName : PySem.W.kitOne K (.ref E_InvalidRow) (.ref E_WrongName) = some false
  kf_InvalidRow_UnknownThing : PySem.W.kitOne K (.ref E_InvalidRow) (.ref E_UnknownThing) = some false
  kf_InvalidRow_NoAnswer : PySem.W.kitOne K (.ref E_InvalidRow) (.ref E_NoAnswer) = some false
  kf_InvalidRow_TooMany : PySem.W.kitOne K (.ref E_InvalidRow) (.ref E_TooMany) = some false
  kf_InvalidRow_NoHouse : PySem.W.kitOne K (.ref E_InvalidRow) (.ref E_NoHouse) = some false
  C : Addr
  cl : Cls K C
  g_Ranking : mg "Ranking" = some (.ref C)
  ki_tuple : PySem.W.kitOne K (.ref C) (.type "tuple") = some false
  ne : PySem.W.findIn K (.ref C) "__ne__" = some (some (.builtin "object.__ne__"))
  ob : PySem.W.mroIn K C (.type "object") = some true
  ty : ∀ {H : Hp} {a dx : Addr} {fs : List (Str × V)}, H a = some (.ins C dx fs) → TyX K H (.ref a) (.ref C)
  nobool : PySem.W.findIn K (.ref C) "__bool__" = some none
  fm : PySem.W.findIn K (.ref C) "__format__" = some (some (.builtin "object.__format__"))
  crd : ClX.CRead K C (.type "type")
  cty : PySem.W.typeIn K (.ref C) = some (.type "type")
  no__row : NoAttr K C "_row"
  no__things : NoAttr K C "_things"
  a_is_name : Addr
  fd_is_name : FuncData
  F_is_name : Fun K "is_name" "is_name" st_is_name a_is_name fd_is_name
  b_is_name : Binds K fd_is_name ["value"] []
  g_is_name : mg "is_name" = some (.ref a_is_name)
  a_is_filled_tuple : Addr
  fd_is_filled_tuple : FuncData
  F_is_filled_tuple : Fun K "is_filled_tuple" "is_filled_tuple" st_is_filled_tuple a_is_filled_tuple fd_is_filled_tuple
  b_is_filled_tuple : Binds K fd_is_filled_tuple ["value"] []
  g_is_filled_tuple : mg "is_filled_tuple" = some (.ref a_is_filled_tuple)
  a_first_wrong_in_row : Addr
  fd_first_wrong_in_row : FuncData
  F_first_wrong_in_row : Fun K "first_wrong_in_row" "first_wrong_in_row" st_first_wrong_in_row a_first_wrong_in_row fd_first_wrong_in_row
  b_first_wrong_in_row : Binds K fd_first_wrong_in_row ["row"] []
  g_first_wrong_in_row : mg "first_wrong_in_row" = some (.ref a_first_wrong_in_row)
  a_check_row : Addr
  fd_check_row : FuncData
  F_check_row : Fun K "check_row" "check_row" st_check_row a_check_row fd_check_row
  b_check_row : Binds K fd_check_row ["row"] []
  g_check_row : mg "check_row" = some (.ref a_check_row)
  a_RankingD_initD : Addr
  fd_RankingD_initD : FuncData
  F_RankingD_initD : Fun K "__init__" "Ranking.__init__" st_RankingD_initD a_RankingD_initD fd_RankingD_initD
  b_RankingD_initD : Binds K fd_RankingD_initD ["self", "row"] []
  mkc : Mk K C a_RankingD_initD
  kb_RankingD_initD : KBn K fd_RankingD_initD ["self", "row"] 1 ["row"] (fun us ws => us ++ ws) (fun vs zs => vs ++ zs)
  q_Ranking_of : Addr
  a_Ranking_of : Addr
  fd_Ranking_of : FuncData
  F_Ranking_of : Fun K "of" "Ranking.of" st_Ranking_of a_Ranking_of fd_Ranking_of
  bv_Ranking_of : ∀ (u : Value) (rest : List Value), rest.length ≤ 11 → bindArgs fd_Ranking_of ⟨u :: rest, []⟩ = (newTuple rest >>= fun t => pure [(("cls" : Str), u), (("names" : Str), t)])
  cm_Ranking_of : ClX.CMet K C (.type "type") "of" q_Ranking_of a_Ranking_of
  a_RankingD_strD : Addr
  fd_RankingD_strD : FuncData
  F_RankingD_strD : Fun K "__str__" "Ranking.__str__" st_RankingD_strD a_RankingD_strD fd_RankingD_strD
  b_RankingD_strD : Binds K fd_RankingD_strD ["self"] []
  m_RankingD_strD : Meth K C "__str__" a_RankingD_strD
  a_InvalidRowD_initD : Addr
  fd_InvalidRowD_initD : FuncData
  F_InvalidRowD_initD : Fun K "__init__" "InvalidRow.__init__" st_InvalidRowD_initD a_InvalidRowD_initD fd_InvalidRowD_initD
  b_InvalidRowD_initD : Binds K fd_InvalidRowD_initD ["self", "index"] []
  ic_InvalidRow : PySem.W.findIn K (.ref E_InvalidRow) "__init__" = some (some (.ref a_InvalidRowD_initD))
  ti_InvalidRow : PySem.W.typeIn K (.ref a_InvalidRowD_initD) = some (.type "function")
  a_l_purse : Addr
  fd_l_purse : FuncData
  F_l_purse : Fun K "_law_purse" "_law_purse" st_l_purse a_l_purse fd_l_purse
  b_l_purse : Binds K fd_l_purse ["_law_script", "_law_spot"] []
  g_l_purse : mg "_law_purse" = some (.ref a_l_purse)
  a_l_draw : Addr
  fd_l_draw : FuncData
  F_l_draw : Fun K "_law_draw" "_law_draw" st_l_draw a_l_draw fd_l_draw
  b_l_draw : Binds K fd_l_draw ["_law_purse_here", "_law_many"] []
  g_l_draw : mg "_law_draw" = some (.ref a_l_draw)
  a_l_things : Addr
  fd_l_things : FuncData
  F_l_things : Fun K "_law_things" "_law_things" st_l_things a_l_things fd_l_things
  b_l_things : Binds K fd_l_things ["_law_purse_here", "_law_many"] []
  g_l_things : mg "_law_things" = some (.ref a_l_things)
  a_l_order : Addr
  fd_l_order : FuncData
  F_l_order : Fun K "_law_order" "_law_order" st_l_order a_l_order fd_l_order
  b_l_order : Binds K fd_l_order ["_law_purse_here", "_law_things_here"] []
  g_l_order : mg "_law_order" = some (.ref a_l_order)
  a_l_sort : Addr
  fd_l_sort : FuncData
  F_l_sort : Fun K "_law_sort" "_law_sort" st_l_sort a_l_sort fd_l_sort
  b_l_sort : Binds K fd_l_sort ["_law_e"] []
  g_l_sort : mg "_law_sort" = some (.ref a_l_sort)
  a_l_attribute : Addr
  fd_l_attribute : FuncData
  F_l_attribute : Fun K "_law_attribute" "_law_attribute" st_l_attribute a_l_attribute fd_l_attribute
  b_l_attribute : Binds K fd_l_attribute ["_law_e", "_law_word"] []
  g_l_attribute : mg "_law_attribute" = some (.ref a_l_attribute)
  a_l_told : Addr
  fd_l_told : FuncData
  F_l_told : Fun K "_law_told" "_law_told" st_l_told a_l_told fd_l_told
  b_l_told : Binds K fd_l_told ["_law_act"] []
  g_l_told : mg "_law_told" = some (.ref a_l_told)
  a_l_is_name : Addr
  fd_l_is_name : FuncData
  F_l_is_name : Fun K "_law_is_name" "_law_is_name" st_l_is_name a_l_is_name fd_l_is_name
  b_l_is_name : Binds K fd_l_is_name ["_law_name"] []
  g_l_is_name : mg "_law_is_name" = some (.ref a_l_is_name)
  a_l_wrong : Addr
  fd_l_wrong : FuncData
  F_l_wrong : Fun K "_law_wrong" "_law_wrong" st_l_wrong a_l_wrong fd_l_wrong
  b_l_wrong : Binds K fd_l_wrong ["_law_rank"] []
  g_l_wrong : mg "_law_wrong" = some (.ref a_l_wrong)
  a_l_due : Addr
  fd_l_due : FuncData
  F_l_due : Fun K "_law_due" "_law_due" st_l_due a_l_due fd_l_due
  b_l_due : Binds K fd_l_due ["_law_rank"] []
  g_l_due : mg "_law_due" = some (.ref a_l_due)
  a_l_made : Addr
  fd_l_made : FuncData
  F_l_made : Fun K "_law_made" "_law_made" st_l_made a_l_made fd_l_made
  b_l_made : Binds K fd_l_made ["_law_rank"] []
  c_l_made : Addr
  P_l_made : Addr
  M_l_made : MkFn K "_law_made" st_l_made a_l_made c_l_made ["_law_rank"]
  th_l_made : PySem.W.codeHdIn K c_l_made P_l_made = true
  tn_l_made : K.lookup P_l_made = none
  g_l_made : mg "_law_made" = some (.ref a_l_made)
  a_l_right : Addr
  fd_l_right : FuncData
  F_l_right : Fun K "_law_right" "_law_right" st_l_right a_l_right fd_l_right
  b_l_right : Binds K fd_l_right ["_law_purse_here"] []
  c_l_right : Addr
  P_l_right : Addr
  M_l_right : MkFn K "_law_right" st_l_right a_l_right c_l_right ["_law_purse_here"]
  th_l_right : PySem.W.codeHdIn K c_l_right P_l_right = true
  tn_l_right : K.lookup P_l_right = none
  g_l_right : mg "_law_right" = some (.ref a_l_right)
  a_law : Addr
  fd_law : FuncData
  F_law : Fun K "law" "law" st_law a_law fd_law
  b_law : Binds K fd_law ["_law_script"] []
  g_law : mg "law" = some (.ref a_law)
  pne_l_made_l_right : P_l_made ≠ P_l_right
  g_MOST_THINGS : ∃ t : Tok, mg "MOST_THINGS" = some (.int 10 t)
  g_LETTERS : ∃ t : Tok, mg "LETTERS" = some (.str "abcdefghijklmnopqrstuvwxyz" t)
  g_DIGITS : ∃ t : Tok, mg "DIGITS" = some (.str "0123456789" t)
  g_LONGEST_NAME : ∃ t : Tok, mg "LONGEST_NAME" = some (.int 8 t)
  n_len : mg "len" = none
  n_isinstance : mg "isinstance" = none
  n_all : mg "all" = none
  n_enumerate : mg "enumerate" = none
  n_tuple : mg "tuple" = none
  n_sorted : mg "sorted" = none
  n_abs : mg "abs" = none
  n_int : mg "int" = none
  n_divmod : mg "divmod" = none
  n_range : mg "range" = none
  n_list : mg "list" = none
  n_repr : mg "repr" = none
  n_max : mg "max" = none
  n_min : mg "min" = none
  n_str : mg "str" = none
theorem tx_of {K : PySem.W.Frag} {h : Heap} {mg : Str → Option Value} {fa : Addr} (X : K.In h) (G : h.Ns mainGlobals mg) (hfa : mg "law" = some (.ref fa))
    {E_WrongValue : Addr}
    {E_InvalidText : Addr}
    {E_InvalidIndex : Addr}
    {E_NotARanking : Addr}
    {E_NotAHouse : Addr}
    {E_OtherThings : Addr}
    {E_InvalidRow : Addr}
    {E_InvalidMenu : Addr}
    {E_InvalidRankings : Addr}
    {E_WrongName : Addr}
    {E_UnknownThing : Addr}
    {E_NoAnswer : Addr}
    {E_TooMany : Addr}
    {E_NoHouse : Addr}
    {N_InvalidRow : Addr} {nm_InvalidRow q_InvalidRow : Str} {bs_InvalidRow bm_InvalidRow sub_InvalidRow : List Value} {sn_InvalidRow : List Str} {ab_InvalidRow : Bool} {col_InvalidRow : Option Bool} {dd_InvalidRow : Option Addr} {k0_InvalidRow k1_InvalidRow k2_InvalidRow k3_InvalidRow k5_InvalidRow : Option Value}
    {C_Ranking : Addr}
    {f_is_name : Addr} {od_is_name an_is_name : Option Addr} {sl_is_name : Array (Option Value)} {oc_is_name kV_is_name dc_is_name pm_is_name cd_is_name ct_is_name : Value}
    {f_is_filled_tuple : Addr} {od_is_filled_tuple an_is_filled_tuple : Option Addr} {sl_is_filled_tuple : Array (Option Value)} {oc_is_filled_tuple kV_is_filled_tuple dc_is_filled_tuple pm_is_filled_tuple cd_is_filled_tuple ct_is_filled_tuple : Value}
    {f_first_wrong_in_row : Addr} {od_first_wrong_in_row an_first_wrong_in_row : Option Addr} {sl_first_wrong_in_row : Array (Option Value)} {oc_first_wrong_in_row kV_first_wrong_in_row dc_first_wrong_in_row pm_first_wrong_in_row cd_first_wrong_in_row ct_first_wrong_in_row : Value}
    {f_check_row : Addr} {od_check_row an_check_row : Option Addr} {sl_check_row : Array (Option Value)} {oc_check_row kV_check_row dc_check_row pm_check_row cd_check_row ct_check_row : Value}
    {f_RankingD_initD : Addr} {od_RankingD_initD an_RankingD_initD : Option Addr} {sl_RankingD_initD : Array (Option Value)} {oc_RankingD_initD kV_RankingD_initD dc_RankingD_initD pm_RankingD_initD cd_RankingD_initD ct_RankingD_initD : Value}
    {f_Ranking_of : Addr} {od_Ranking_of an_Ranking_of : Option Addr} {sl_Ranking_of : Array (Option Value)} {oc_Ranking_of kV_Ranking_of dc_Ranking_of pm_Ranking_of cd_Ranking_of ct_Ranking_of : Value}
    {q_Ranking_of : Addr} {rest_Ranking_of : List Value}
    {f_RankingD_strD : Addr} {od_RankingD_strD an_RankingD_strD : Option Addr} {sl_RankingD_strD : Array (Option Value)} {oc_RankingD_strD kV_RankingD_strD dc_RankingD_strD pm_RankingD_strD cd_RankingD_strD ct_RankingD_strD : Value}
    {f_InvalidRowD_initD : Addr} {od_InvalidRowD_initD an_InvalidRowD_initD : Option Addr} {sl_InvalidRowD_initD : Array (Option Value)} {oc_InvalidRowD_initD kV_InvalidRowD_initD dc_InvalidRowD_initD pm_InvalidRowD_initD cd_InvalidRowD_initD ct_InvalidRowD_initD : Value}
    {f_l_purse : Addr} {od_l_purse an_l_purse : Option Addr} {sl_l_purse : Array (Option Value)} {oc_l_purse kV_l_purse dc_l_purse pm_l_purse cd_l_purse ct_l_purse : Value}
    {f_l_draw : Addr} {od_l_draw an_l_draw : Option Addr} {sl_l_draw : Array (Option Value)} {oc_l_draw kV_l_draw dc_l_draw pm_l_draw cd_l_draw ct_l_draw : Value}
    {f_l_things : Addr} {od_l_things an_l_things : Option Addr} {sl_l_things : Array (Option Value)} {oc_l_things kV_l_things dc_l_things pm_l_things cd_l_things ct_l_things : Value}
    {f_l_order : Addr} {od_l_order an_l_order : Option Addr} {sl_l_order : Array (Option Value)} {oc_l_order kV_l_order dc_l_order pm_l_order cd_l_order ct_l_order : Value}
    {f_l_sort : Addr} {od_l_sort an_l_sort : Option Addr} {sl_l_sort : Array (Option Value)} {oc_l_sort kV_l_sort dc_l_sort pm_l_sort cd_l_sort ct_l_sort : Value}
    {f_l_attribute : Addr} {od_l_attribute an_l_attribute : Option Addr} {sl_l_attribute : Array (Option Value)} {oc_l_attribute kV_l_attribute dc_l_attribute pm_l_attribute cd_l_attribute ct_l_attribute : Value}
    {f_l_told : Addr} {od_l_told an_l_told : Option Addr} {sl_l_told : Array (Option Value)} {oc_l_told kV_l_told dc_l_told pm_l_told cd_l_told ct_l_told : Value}
    {f_l_is_name : Addr} {od_l_is_name an_l_is_name : Option Addr} {sl_l_is_name : Array (Option Value)} {oc_l_is_name kV_l_is_name dc_l_is_name pm_l_is_name cd_l_is_name ct_l_is_name : Value}
    {f_l_wrong : Addr} {od_l_wrong an_l_wrong : Option Addr} {sl_l_wrong : Array (Option Value)} {oc_l_wrong kV_l_wrong dc_l_wrong pm_l_wrong cd_l_wrong ct_l_wrong : Value}
    {f_l_due : Addr} {od_l_due an_l_due : Option Addr} {sl_l_due : Array (Option Value)} {oc_l_due kV_l_due dc_l_due pm_l_due cd_l_due ct_l_due : Value}
    {f_l_made : Addr} {od_l_made an_l_made : Option Addr} {sl_l_made : Array (Option Value)} {oc_l_made kV_l_made dc_l_made pm_l_made ct_l_made : Value}
    {cc_l_made pp_l_made : Addr} {cod_l_made : Option Addr} {cvs_l_made : Array Value} {csl_l_made : Array (Option Value)}
    {f_l_right : Addr} {od_l_right an_l_right : Option Addr} {sl_l_right : Array (Option Value)} {oc_l_right kV_l_right dc_l_right pm_l_right ct_l_right : Value}
    {cc_l_right pp_l_right : Addr} {cod_l_right : Option Addr} {cvs_l_right : Array Value} {csl_l_right : Array (Option Value)}
    {f_law : Addr} {od_law an_law : Option Addr} {sl_law : Array (Option Value)} {oc_law kV_law dc_law pm_law cd_law ct_law : Value}
    {ts : List Addr}
    {t_MOST_THINGS : Tok}
    {t_LETTERS : Tok}
    {t_DIGITS : Tok}
    {t_LONGEST_NAME : Tok}
    (eg_WrongValue : PySem.W.nsIn K mainGlobals "WrongValue" = some (some (.ref E_WrongValue)))
    (eg_InvalidText : PySem.W.nsIn K mainGlobals "InvalidText" = some (some (.ref E_InvalidText)))
    (eg_InvalidIndex : PySem.W.nsIn K mainGlobals "InvalidIndex" = some (some (.ref E_InvalidIndex)))
    (eg_NotARanking : PySem.W.nsIn K mainGlobals "NotARanking" = some (some (.ref E_NotARanking)))
    (eg_NotAHouse : PySem.W.nsIn K mainGlobals "NotAHouse" = some (some (.ref E_NotAHouse)))
    (eg_OtherThings : PySem.W.nsIn K mainGlobals "OtherThings" = some (some (.ref E_OtherThings)))
    (eg_InvalidRow : PySem.W.nsIn K mainGlobals "InvalidRow" = some (some (.ref E_InvalidRow)))
    (eg_InvalidMenu : PySem.W.nsIn K mainGlobals "InvalidMenu" = some (some (.ref E_InvalidMenu)))
    (eg_InvalidRankings : PySem.W.nsIn K mainGlobals "InvalidRankings" = some (some (.ref E_InvalidRankings)))
    (eg_WrongName : PySem.W.nsIn K mainGlobals "WrongName" = some (some (.ref E_WrongName)))
    (eg_UnknownThing : PySem.W.nsIn K mainGlobals "UnknownThing" = some (some (.ref E_UnknownThing)))
    (eg_NoAnswer : PySem.W.nsIn K mainGlobals "NoAnswer" = some (some (.ref E_NoAnswer)))
    (eg_TooMany : PySem.W.nsIn K mainGlobals "TooMany" = some (some (.ref E_TooMany)))
    (eg_NoHouse : PySem.W.nsIn K mainGlobals "NoHouse" = some (some (.ref E_NoHouse)))
    (xl_InvalidRow : K.lookup E_InvalidRow = some (excClassObj nm_InvalidRow q_InvalidRow E_InvalidRow N_InvalidRow bs_InvalidRow bm_InvalidRow true sn_InvalidRow sub_InvalidRow ab_InvalidRow col_InvalidRow dd_InvalidRow k0_InvalidRow k1_InvalidRow k2_InvalidRow k3_InvalidRow k5_InvalidRow "ValueError.__new__"))
    (xr_InvalidRow : PySem.HandSPX.refsVE bm_InvalidRow = true)
    (xs_InvalidRow : PySem.W.findIn K (.ref E_InvalidRow) "__setattr__" = some (some (.builtin "object.__setattr__")))
    (xx_InvalidRow : PySem.W.subIn K (.ref E_InvalidRow) (.type "BaseException") = some true)
    (xt_InvalidRow : PySem.W.typeIn K (.ref E_InvalidRow) = some (.type "type"))
    (xk_InvalidRow : PySem.W.keepIn K (.ref E_InvalidRow) = true)
    (xn_InvalidRow : PySem.W.findIn K (.ref E_InvalidRow) "index" = some none)
    (xga_InvalidRow : PySem.W.findIn K (.ref E_InvalidRow) "__getattribute__" = some (some (.builtin "BaseException.__getattribute__")))
    (xgg_InvalidRow : PySem.W.findIn K (.ref E_InvalidRow) "__getattr__" = some none)
    (xhd_InvalidRow : PySem.W.hasDictIn K E_InvalidRow = true)
    (xcl_InvalidRow : (PySem.W.clsIn K E_InvalidRow).isSome = true)
    (xca_InvalidRow : PySem.W.findIn K (.ref E_InvalidRow) "__class__" = some (some (.builtin "object.__class__")))
    (xcb_InvalidRow : PySem.W.specialIn K (.builtin "object.__class__") "__get__" = some (some (.builtin "getset_descriptor.__get__")))
    (xcc_InvalidRow : PySem.W.takesIn K (.builtin "object.__class__") = some true)
    (xob_InvalidRow : PySem.W.mroIn K E_InvalidRow (.type "object") = some true)
    (xem_InvalidRow : PySem.W.exmAny K (.ref E_InvalidRow) [.ref E_WrongValue, .ref E_WrongName, .ref E_NoAnswer] = some true)
    (kf_InvalidRow_WrongValue : PySem.W.kitOne K (.ref E_InvalidRow) (.ref E_WrongValue) = some true)
    (kf_InvalidRow_InvalidText : PySem.W.kitOne K (.ref E_InvalidRow) (.ref E_InvalidText) = some false)
    (kf_InvalidRow_InvalidIndex : PySem.W.kitOne K (.ref E_InvalidRow) (.ref E_InvalidIndex) = some false)
    (kf_InvalidRow_NotARanking : PySem.W.kitOne K (.ref E_InvalidRow) (.ref E_NotARanking) = some false)
    (kf_InvalidRow_NotAHouse : PySem.W.kitOne K (.ref E_InvalidRow) (.ref E_NotAHouse) = some false)
    (kf_InvalidRow_OtherThings : PySem.W.kitOne K (.ref E_InvalidRow) (.ref E_OtherThings) = some false)
    (kf_InvalidRow_InvalidRow : PySem.W.kitOne K (.ref E_InvalidRow) (.ref E_InvalidRow) = some true)
    (kf_InvalidRow_InvalidMenu : PySem.W.kitOne K (.ref E_InvalidRow) (.ref E_InvalidMenu) = some false)
    (kf_InvalidRow_InvalidRankings : PySem.W.kitOne K (.ref E_InvalidRow) (.ref E_InvalidRankings) = some false)
    (kf_InvalidRow_WrongName : PySem.W.kitOne K (.ref E_InvalidRow) (.ref E_WrongName) = some false)
    (kf_InvalidRow_UnknownThing : PySem.W.kitOne K (.ref E_InvalidRow) (.ref E_UnknownThing) = some false)
    (kf_InvalidRow_NoAnswer : PySem.W.kitOne K (.ref E_InvalidRow) (.ref E_NoAnswer) = some false)
    (kf_InvalidRow_TooMany : PySem.W.kitOne K (.ref E_InvalidRow) (.ref E_TooMany) = some false)
    (kf_InvalidRow_NoHouse : PySem.W.kitOne K (.ref E_InvalidRow) (.ref E_NoHouse) = some false)
    (cg_Ranking : PySem.W.nsIn K mainGlobals "Ranking" = some (some (.ref C_Ranking)))
    (cp_Ranking : PySem.W.plainGet K C_Ranking Str.empty = true)
    (ch_Ranking : PySem.W.hasDictIn K C_Ranking = true)
    (co_Ranking : PySem.W.plainOver K C_Ranking = true)
    (cs_Ranking : PySem.W.findIn K (.ref C_Ranking) "__setattr__" = some (some (.builtin "object.__setattr__")))
    (cm_Ranking : PySem.W.makesIn K C_Ranking = true)
    (ck_Ranking : PySem.W.keepIn K (.ref C_Ranking) = true)
    (cne_Ranking : PySem.W.findIn K (.ref C_Ranking) "__ne__" = some (some (.builtin "object.__ne__")))
    (cob_Ranking : PySem.W.mroIn K C_Ranking (.type "object") = some true)
    (cca_Ranking : PySem.W.findIn K (.ref C_Ranking) "__class__" = some (some (.builtin "object.__class__")))
    (ccb_Ranking : PySem.W.specialIn K (.builtin "object.__class__") "__get__" = some (some (.builtin "getset_descriptor.__get__")))
    (ccc_Ranking : PySem.W.takesIn K (.builtin "object.__class__") = some true)
    (cki_Ranking_tuple : PySem.W.kitOne K (.ref C_Ranking) (.type "tuple") = some false)
    (cbo_Ranking : PySem.W.findIn K (.ref C_Ranking) "__bool__" = some none)
    (cfm_Ranking : PySem.W.findIn K (.ref C_Ranking) "__format__" = some (some (.builtin "object.__format__")))
    (crd_Ranking : PySem.W.readsIn K C_Ranking (.type "type") = true)
    (cty_Ranking : PySem.W.typeIn K (.ref C_Ranking) = some (.type "type"))
    (cga_Ranking : PySem.W.specialIn K (.ref C_Ranking) "__getattribute__" = some (some (.builtin "type.__getattribute__")))
    (cn_Ranking__row : PySem.W.findIn K (.ref C_Ranking) "_row" = some none)
    (cn_Ranking__things : PySem.W.findIn K (.ref C_Ranking) "_things" = some none)
    (a_is_name : PySem.W.nsIn K mainGlobals "is_name" = some (some (.ref f_is_name)))
    (l_is_name : K.lookup f_is_name = some ⟨oc_is_name, od_is_name, .func (PySem.W.fnOf "is_name" "is_name" (defArgs st_is_name) (defBody st_is_name) (defScope st_is_name) .none kV_is_name dc_is_name pm_is_name an_is_name cd_is_name ct_is_name), sl_is_name⟩)
    (c_is_name : PySem.W.codeIn K cd_is_name "is_name" = true)
    (k_is_name : PySem.W.keepIn K (.ref f_is_name) = true)
    (a_is_filled_tuple : PySem.W.nsIn K mainGlobals "is_filled_tuple" = some (some (.ref f_is_filled_tuple)))
    (l_is_filled_tuple : K.lookup f_is_filled_tuple = some ⟨oc_is_filled_tuple, od_is_filled_tuple, .func (PySem.W.fnOf "is_filled_tuple" "is_filled_tuple" (defArgs st_is_filled_tuple) (defBody st_is_filled_tuple) (defScope st_is_filled_tuple) .none kV_is_filled_tuple dc_is_filled_tuple pm_is_filled_tuple an_is_filled_tuple cd_is_filled_tuple ct_is_filled_tuple), sl_is_filled_tuple⟩)
    (c_is_filled_tuple : PySem.W.codeIn K cd_is_filled_tuple "is_filled_tuple" = true)
    (k_is_filled_tuple : PySem.W.keepIn K (.ref f_is_filled_tuple) = true)
    (a_first_wrong_in_row : PySem.W.nsIn K mainGlobals "first_wrong_in_row" = some (some (.ref f_first_wrong_in_row)))
    (l_first_wrong_in_row : K.lookup f_first_wrong_in_row = some ⟨oc_first_wrong_in_row, od_first_wrong_in_row, .func (PySem.W.fnOf "first_wrong_in_row" "first_wrong_in_row" (defArgs st_first_wrong_in_row) (defBody st_first_wrong_in_row) (defScope st_first_wrong_in_row) .none kV_first_wrong_in_row dc_first_wrong_in_row pm_first_wrong_in_row an_first_wrong_in_row cd_first_wrong_in_row ct_first_wrong_in_row), sl_first_wrong_in_row⟩)
    (c_first_wrong_in_row : PySem.W.codeIn K cd_first_wrong_in_row "first_wrong_in_row" = true)
    (k_first_wrong_in_row : PySem.W.keepIn K (.ref f_first_wrong_in_row) = true)
    (a_check_row : PySem.W.nsIn K mainGlobals "check_row" = some (some (.ref f_check_row)))
    (l_check_row : K.lookup f_check_row = some ⟨oc_check_row, od_check_row, .func (PySem.W.fnOf "check_row" "check_row" (defArgs st_check_row) (defBody st_check_row) (defScope st_check_row) .none kV_check_row dc_check_row pm_check_row an_check_row cd_check_row ct_check_row), sl_check_row⟩)
    (c_check_row : PySem.W.codeIn K cd_check_row "check_row" = true)
    (k_check_row : PySem.W.keepIn K (.ref f_check_row) = true)
    (a_RankingD_initD : PySem.W.findIn K (.ref C_Ranking) "__init__" = some (some (.ref f_RankingD_initD)))
    (i_RankingD_initD : PySem.W.isFn K (.ref f_RankingD_initD) = true)
    (l_RankingD_initD : K.lookup f_RankingD_initD = some ⟨oc_RankingD_initD, od_RankingD_initD, .func (PySem.W.fnOf "__init__" "Ranking.__init__" (defArgs st_RankingD_initD) (defBody st_RankingD_initD) (defScope st_RankingD_initD) .none kV_RankingD_initD dc_RankingD_initD pm_RankingD_initD an_RankingD_initD cd_RankingD_initD ct_RankingD_initD), sl_RankingD_initD⟩)
    (c_RankingD_initD : PySem.W.codeIn K cd_RankingD_initD "Ranking.__init__" = true)
    (k_RankingD_initD : PySem.W.keepIn K (.ref f_RankingD_initD) = true)
    (a_Ranking_of : PySem.W.findCls K (.ref C_Ranking) (.type "type") "of" = some (.get (.builtin "classmethod.__get__") (.ref q_Ranking_of) .none (.ref C_Ranking)))
    (pr_Ranking_of : PySem.W.recIn K q_Ranking_of "classmethod" = some (.ref f_Ranking_of :: rest_Ranking_of))
    (fi_Ranking_of : PySem.W.fnIn K f_Ranking_of = true)
    (l_Ranking_of : K.lookup f_Ranking_of = some ⟨oc_Ranking_of, od_Ranking_of, .func (PySem.W.fnOf "of" "Ranking.of" (defArgs st_Ranking_of) (defBody st_Ranking_of) (defScope st_Ranking_of) .none kV_Ranking_of dc_Ranking_of pm_Ranking_of an_Ranking_of cd_Ranking_of ct_Ranking_of), sl_Ranking_of⟩)
    (c_Ranking_of : PySem.W.codeIn K cd_Ranking_of "Ranking.of" = true)
    (k_Ranking_of : PySem.W.keepIn K (.ref f_Ranking_of) = true)
    (a_RankingD_strD : PySem.W.findIn K (.ref C_Ranking) "__str__" = some (some (.ref f_RankingD_strD)))
    (i_RankingD_strD : PySem.W.isFn K (.ref f_RankingD_strD) = true)
    (l_RankingD_strD : K.lookup f_RankingD_strD = some ⟨oc_RankingD_strD, od_RankingD_strD, .func (PySem.W.fnOf "__str__" "Ranking.__str__" (defArgs st_RankingD_strD) (defBody st_RankingD_strD) (defScope st_RankingD_strD) .none kV_RankingD_strD dc_RankingD_strD pm_RankingD_strD an_RankingD_strD cd_RankingD_strD ct_RankingD_strD), sl_RankingD_strD⟩)
    (c_RankingD_strD : PySem.W.codeIn K cd_RankingD_strD "Ranking.__str__" = true)
    (k_RankingD_strD : PySem.W.keepIn K (.ref f_RankingD_strD) = true)
    (a_InvalidRowD_initD : PySem.W.findIn K (.ref E_InvalidRow) "__init__" = some (some (.ref f_InvalidRowD_initD)))
    (ti_InvalidRowD_initD : PySem.W.typeIn K (.ref f_InvalidRowD_initD) = some (.type "function"))
    (l_InvalidRowD_initD : K.lookup f_InvalidRowD_initD = some ⟨oc_InvalidRowD_initD, od_InvalidRowD_initD, .func (PySem.W.fnOf "__init__" "InvalidRow.__init__" (defArgs st_InvalidRowD_initD) (defBody st_InvalidRowD_initD) (defScope st_InvalidRowD_initD) .none kV_InvalidRowD_initD dc_InvalidRowD_initD pm_InvalidRowD_initD an_InvalidRowD_initD cd_InvalidRowD_initD ct_InvalidRowD_initD), sl_InvalidRowD_initD⟩)
    (c_InvalidRowD_initD : PySem.W.codeIn K cd_InvalidRowD_initD "InvalidRow.__init__" = true)
    (k_InvalidRowD_initD : PySem.W.keepIn K (.ref f_InvalidRowD_initD) = true)
    (a_l_purse : PySem.W.nsIn K mainGlobals "_law_purse" = some (some (.ref f_l_purse)))
    (l_l_purse : K.lookup f_l_purse = some ⟨oc_l_purse, od_l_purse, .func (PySem.W.fnOf "_law_purse" "_law_purse" (defArgs st_l_purse) (defBody st_l_purse) (defScope st_l_purse) .none kV_l_purse dc_l_purse pm_l_purse an_l_purse cd_l_purse ct_l_purse), sl_l_purse⟩)
    (c_l_purse : PySem.W.codeIn K cd_l_purse "_law_purse" = true)
    (k_l_purse : PySem.W.keepIn K (.ref f_l_purse) = true)
    (a_l_draw : PySem.W.nsIn K mainGlobals "_law_draw" = some (some (.ref f_l_draw)))
    (l_l_draw : K.lookup f_l_draw = some ⟨oc_l_draw, od_l_draw, .func (PySem.W.fnOf "_law_draw" "_law_draw" (defArgs st_l_draw) (defBody st_l_draw) (defScope st_l_draw) .none kV_l_draw dc_l_draw pm_l_draw an_l_draw cd_l_draw ct_l_draw), sl_l_draw⟩)
    (c_l_draw : PySem.W.codeIn K cd_l_draw "_law_draw" = true)
    (k_l_draw : PySem.W.keepIn K (.ref f_l_draw) = true)
    (a_l_things : PySem.W.nsIn K mainGlobals "_law_things" = some (some (.ref f_l_things)))
    (l_l_things : K.lookup f_l_things = some ⟨oc_l_things, od_l_things, .func (PySem.W.fnOf "_law_things" "_law_things" (defArgs st_l_things) (defBody st_l_things) (defScope st_l_things) .none kV_l_things dc_l_things pm_l_things an_l_things cd_l_things ct_l_things), sl_l_things⟩)
    (c_l_things : PySem.W.codeIn K cd_l_things "_law_things" = true)
    (k_l_things : PySem.W.keepIn K (.ref f_l_things) = true)
    (a_l_order : PySem.W.nsIn K mainGlobals "_law_order" = some (some (.ref f_l_order)))
    (l_l_order : K.lookup f_l_order = some ⟨oc_l_order, od_l_order, .func (PySem.W.fnOf "_law_order" "_law_order" (defArgs st_l_order) (defBody st_l_order) (defScope st_l_order) .none kV_l_order dc_l_order pm_l_order an_l_order cd_l_order ct_l_order), sl_l_order⟩)
    (c_l_order : PySem.W.codeIn K cd_l_order "_law_order" = true)
    (k_l_order : PySem.W.keepIn K (.ref f_l_order) = true)
    (a_l_sort : PySem.W.nsIn K mainGlobals "_law_sort" = some (some (.ref f_l_sort)))
    (l_l_sort : K.lookup f_l_sort = some ⟨oc_l_sort, od_l_sort, .func (PySem.W.fnOf "_law_sort" "_law_sort" (defArgs st_l_sort) (defBody st_l_sort) (defScope st_l_sort) .none kV_l_sort dc_l_sort pm_l_sort an_l_sort cd_l_sort ct_l_sort), sl_l_sort⟩)
    (c_l_sort : PySem.W.codeIn K cd_l_sort "_law_sort" = true)
    (k_l_sort : PySem.W.keepIn K (.ref f_l_sort) = true)
    (a_l_attribute : PySem.W.nsIn K mainGlobals "_law_attribute" = some (some (.ref f_l_attribute)))
    (l_l_attribute : K.lookup f_l_attribute = some ⟨oc_l_attribute, od_l_attribute, .func (PySem.W.fnOf "_law_attribute" "_law_attribute" (defArgs st_l_attribute) (defBody st_l_attribute) (defScope st_l_attribute) .none kV_l_attribute dc_l_attribute pm_l_attribute an_l_attribute cd_l_attribute ct_l_attribute), sl_l_attribute⟩)
    (c_l_attribute : PySem.W.codeIn K cd_l_attribute "_law_attribute" = true)
    (k_l_attribute : PySem.W.keepIn K (.ref f_l_attribute) = true)
    (a_l_told : PySem.W.nsIn K mainGlobals "_law_told" = some (some (.ref f_l_told)))
    (l_l_told : K.lookup f_l_told = some ⟨oc_l_told, od_l_told, .func (PySem.W.fnOf "_law_told" "_law_told" (defArgs st_l_told) (defBody st_l_told) (defScope st_l_told) .none kV_l_told dc_l_told pm_l_told an_l_told cd_l_told ct_l_told), sl_l_told⟩)
    (c_l_told : PySem.W.codeIn K cd_l_told "_law_told" = true)
    (k_l_told : PySem.W.keepIn K (.ref f_l_told) = true)
    (a_l_is_name : PySem.W.nsIn K mainGlobals "_law_is_name" = some (some (.ref f_l_is_name)))
    (l_l_is_name : K.lookup f_l_is_name = some ⟨oc_l_is_name, od_l_is_name, .func (PySem.W.fnOf "_law_is_name" "_law_is_name" (defArgs st_l_is_name) (defBody st_l_is_name) (defScope st_l_is_name) .none kV_l_is_name dc_l_is_name pm_l_is_name an_l_is_name cd_l_is_name ct_l_is_name), sl_l_is_name⟩)
    (c_l_is_name : PySem.W.codeIn K cd_l_is_name "_law_is_name" = true)
    (k_l_is_name : PySem.W.keepIn K (.ref f_l_is_name) = true)
    (a_l_wrong : PySem.W.nsIn K mainGlobals "_law_wrong" = some (some (.ref f_l_wrong)))
    (l_l_wrong : K.lookup f_l_wrong = some ⟨oc_l_wrong, od_l_wrong, .func (PySem.W.fnOf "_law_wrong" "_law_wrong" (defArgs st_l_wrong) (defBody st_l_wrong) (defScope st_l_wrong) .none kV_l_wrong dc_l_wrong pm_l_wrong an_l_wrong cd_l_wrong ct_l_wrong), sl_l_wrong⟩)
    (c_l_wrong : PySem.W.codeIn K cd_l_wrong "_law_wrong" = true)
    (k_l_wrong : PySem.W.keepIn K (.ref f_l_wrong) = true)
    (a_l_due : PySem.W.nsIn K mainGlobals "_law_due" = some (some (.ref f_l_due)))
    (l_l_due : K.lookup f_l_due = some ⟨oc_l_due, od_l_due, .func (PySem.W.fnOf "_law_due" "_law_due" (defArgs st_l_due) (defBody st_l_due) (defScope st_l_due) .none kV_l_due dc_l_due pm_l_due an_l_due cd_l_due ct_l_due), sl_l_due⟩)
    (c_l_due : PySem.W.codeIn K cd_l_due "_law_due" = true)
    (k_l_due : PySem.W.keepIn K (.ref f_l_due) = true)
    (a_l_made : PySem.W.nsIn K mainGlobals "_law_made" = some (some (.ref f_l_made)))
    (l_l_made : K.lookup f_l_made = some ⟨oc_l_made, od_l_made, .func (PySem.W.fnOf "_law_made" "_law_made" (defArgs st_l_made) (defBody st_l_made) (defScope st_l_made) .none kV_l_made dc_l_made pm_l_made an_l_made (.ref cc_l_made) ct_l_made), sl_l_made⟩)
    (c_l_made : PySem.W.codeIn K (.ref cc_l_made) "_law_made" = true)
    (tb_l_made : K.lookup cc_l_made = some ⟨.type "code", cod_l_made, .fields cvs_l_made, csl_l_made⟩)
    (tp_l_made : cvs_l_made[11]? = some (.ref pp_l_made))
    (tn_l_made : K.lookup pp_l_made = none)
    (th_l_made : codeOk cvs_l_made cc_l_made pp_l_made = true)
    (k_l_made : PySem.W.keepIn K (.ref f_l_made) = true)
    (a_l_right : PySem.W.nsIn K mainGlobals "_law_right" = some (some (.ref f_l_right)))
    (l_l_right : K.lookup f_l_right = some ⟨oc_l_right, od_l_right, .func (PySem.W.fnOf "_law_right" "_law_right" (defArgs st_l_right) (defBody st_l_right) (defScope st_l_right) .none kV_l_right dc_l_right pm_l_right an_l_right (.ref cc_l_right) ct_l_right), sl_l_right⟩)
    (c_l_right : PySem.W.codeIn K (.ref cc_l_right) "_law_right" = true)
    (tb_l_right : K.lookup cc_l_right = some ⟨.type "code", cod_l_right, .fields cvs_l_right, csl_l_right⟩)
    (tp_l_right : cvs_l_right[11]? = some (.ref pp_l_right))
    (tn_l_right : K.lookup pp_l_right = none)
    (th_l_right : codeOk cvs_l_right cc_l_right pp_l_right = true)
    (k_l_right : PySem.W.keepIn K (.ref f_l_right) = true)
    (a_law : PySem.W.nsIn K mainGlobals "law" = some (some (.ref f_law)))
    (l_law : K.lookup f_law = some ⟨oc_law, od_law, .func (PySem.W.fnOf "law" "law" (defArgs st_law) (defBody st_law) (defScope st_law) .none kV_law dc_law pm_law an_law cd_law ct_law), sl_law⟩)
    (c_law : PySem.W.codeIn K cd_law "law" = true)
    (k_law : PySem.W.keepIn K (.ref f_law) = true)
    (pin_l_made : pp_l_made ∈ ts)
    (pin_l_right : pp_l_right ∈ ts)
    (pne_l_made_l_right : pp_l_made ≠ pp_l_right)
    (v_MOST_THINGS : PySem.W.nsIn K mainGlobals "MOST_THINGS" = some (some (.int 10 t_MOST_THINGS)))
    (v_LETTERS : PySem.W.nsIn K mainGlobals "LETTERS" = some (some (.str "abcdefghijklmnopqrstuvwxyz" t_LETTERS)))
    (v_DIGITS : PySem.W.nsIn K mainGlobals "DIGITS" = some (some (.str "0123456789" t_DIGITS)))
    (v_LONGEST_NAME : PySem.W.nsIn K mainGlobals "LONGEST_NAME" = some (some (.int 8 t_LONGEST_NAME)))
    (z_len : PySem.W.nsIn K mainGlobals "len" = some none)
    (z_isinstance : PySem.W.nsIn K mainGlobals "isinstance" = some none)
    (z_all : PySem.W.nsIn K mainGlobals "all" = some none)
    (z_enumerate : PySem.W.nsIn K mainGlobals "enumerate" = some none)
    (z_tuple : PySem.W.nsIn K mainGlobals "tuple" = some none)
    (z_sorted : PySem.W.nsIn K mainGlobals "sorted" = some none)
    (z_abs : PySem.W.nsIn K mainGlobals "abs" = some none)
    (z_int : PySem.W.nsIn K mainGlobals "int" = some none)
    (z_divmod : PySem.W.nsIn K mainGlobals "divmod" = some none)
    (z_range : PySem.W.nsIn K mainGlobals "range" = some none)
    (z_list : PySem.W.nsIn K mainGlobals "list" = some none)
    (z_repr : PySem.W.nsIn K mainGlobals "repr" = some none)
    (z_max : PySem.W.nsIn K mainGlobals "max" = some none)
    (z_min : PySem.W.nsIn K mainGlobals "min" = some none)
    (z_str : PySem.W.nsIn K mainGlobals "str" = some none) : ∃ T : Tx K mg, T.a_law = fa ∧ T.P_l_made ∈ ts ∧ T.P_l_right ∈ ts := by
  have e := hfa.symm.trans (PySem.W.mg_of X G a_law)
  cases e
  exact ⟨{
    E_WrongValue := E_WrongValue
    g_WrongValue := PySem.W.mg_of X G eg_WrongValue
    E_InvalidText := E_InvalidText
    g_InvalidText := PySem.W.mg_of X G eg_InvalidText
    E_InvalidIndex := E_InvalidIndex
    g_InvalidIndex := PySem.W.mg_of X G eg_InvalidIndex
    E_NotARanking := E_NotARanking
    g_NotARanking := PySem.W.mg_of X G eg_NotARanking
    E_NotAHouse := E_NotAHouse
    g_NotAHouse := PySem.W.mg_of X G eg_NotAHouse
    E_OtherThings := E_OtherThings
    g_OtherThings := PySem.W.mg_of X G eg_OtherThings
    E_InvalidRow := E_InvalidRow
    g_InvalidRow := PySem.W.mg_of X G eg_InvalidRow
    E_InvalidMenu := E_InvalidMenu
    g_InvalidMenu := PySem.W.mg_of X G eg_InvalidMenu
    E_InvalidRankings := E_InvalidRankings
    g_InvalidRankings := PySem.W.mg_of X G eg_InvalidRankings
    E_WrongName := E_WrongName
    g_WrongName := PySem.W.mg_of X G eg_WrongName
    E_UnknownThing := E_UnknownThing
    g_UnknownThing := PySem.W.mg_of X G eg_UnknownThing
    E_NoAnswer := E_NoAnswer
    g_NoAnswer := PySem.W.mg_of X G eg_NoAnswer
    E_TooMany := E_TooMany
    g_TooMany := PySem.W.mg_of X G eg_TooMany
    E_NoHouse := E_NoHouse
    g_NoHouse := PySem.W.mg_of X G eg_NoHouse
    ox_InvalidRow := ⟨⟨_, _, _, _, _, _, _, _, _, _, _, _, _, _, _, xl_InvalidRow, xr_InvalidRow⟩, xs_InvalidRow, xx_InvalidRow, xt_InvalidRow, xk_InvalidRow⟩
    ek_InvalidRow := ⟨xcl_InvalidRow, xga_InvalidRow, xgg_InvalidRow, xx_InvalidRow, xhd_InvalidRow, xca_InvalidRow, xcb_InvalidRow, xcc_InvalidRow, xob_InvalidRow⟩
    no_InvalidRow_index := xn_InvalidRow
    em_InvalidRow := xem_InvalidRow
    kf_InvalidRow_WrongValue := kf_InvalidRow_WrongValue
    kf_InvalidRow_InvalidText := kf_InvalidRow_InvalidText
    kf_InvalidRow_InvalidIndex := kf_InvalidRow_InvalidIndex
    kf_InvalidRow_NotARanking := kf_InvalidRow_NotARanking
    kf_InvalidRow_NotAHouse := kf_InvalidRow_NotAHouse
    kf_InvalidRow_OtherThings := kf_InvalidRow_OtherThings
    kf_InvalidRow_InvalidRow := kf_InvalidRow_InvalidRow
    kf_InvalidRow_InvalidMenu := kf_InvalidRow_InvalidMenu
    kf_InvalidRow_InvalidRankings := kf_InvalidRow_InvalidRankings
    kf_InvalidRow_WrongName := kf_InvalidRow_WrongName
    kf_InvalidRow_UnknownThing := kf_InvalidRow_UnknownThing
    kf_InvalidRow_NoAnswer := kf_InvalidRow_NoAnswer
    kf_InvalidRow_TooMany := kf_InvalidRow_TooMany
    kf_InvalidRow_NoHouse := kf_InvalidRow_NoHouse
    C := C_Ranking
    cl := ⟨cp_Ranking, ch_Ranking, co_Ranking, cs_Ranking⟩
    g_Ranking := PySem.W.mg_of X G cg_Ranking
    ne := cne_Ranking
    ob := cob_Ranking
    ty := fun e => .base (.ins e ⟨cp_Ranking, ch_Ranking, co_Ranking, cs_Ranking⟩ cca_Ranking ccb_Ranking ccc_Ranking cob_Ranking)
    ki_tuple := cki_Ranking_tuple
    nobool := cbo_Ranking
    fm := cfm_Ranking
    crd := ⟨crd_Ranking, cga_Ranking⟩
    cty := cty_Ranking
    no__row := cn_Ranking__row
    no__things := cn_Ranking__things
    a_is_name := f_is_name
    fd_is_name := _
    F_is_name := fun_mk (st := st_is_name) l_is_name c_is_name k_is_name
    b_is_name := (fun_mk (st := st_is_name) l_is_name c_is_name k_is_name).binds (ps := ["value"]) fun _ _ _ _ _ _ us hl => match us, hl with | [_], _ => rfl
    g_is_name := PySem.W.mg_of X G a_is_name
    a_is_filled_tuple := f_is_filled_tuple
    fd_is_filled_tuple := _
    F_is_filled_tuple := fun_mk (st := st_is_filled_tuple) l_is_filled_tuple c_is_filled_tuple k_is_filled_tuple
    b_is_filled_tuple := (fun_mk (st := st_is_filled_tuple) l_is_filled_tuple c_is_filled_tuple k_is_filled_tuple).binds (ps := ["value"]) fun _ _ _ _ _ _ us hl => match us, hl with | [_], _ => rfl
    g_is_filled_tuple := PySem.W.mg_of X G a_is_filled_tuple
    a_first_wrong_in_row := f_first_wrong_in_row
    fd_first_wrong_in_row := _
    F_first_wrong_in_row := fun_mk (st := st_first_wrong_in_row) l_first_wrong_in_row c_first_wrong_in_row k_first_wrong_in_row
    b_first_wrong_in_row := (fun_mk (st := st_first_wrong_in_row) l_first_wrong_in_row c_first_wrong_in_row k_first_wrong_in_row).binds (ps := ["row"]) fun _ _ _ _ _ _ us hl => match us, hl with | [_], _ => rfl
    g_first_wrong_in_row := PySem.W.mg_of X G a_first_wrong_in_row
    a_check_row := f_check_row
    fd_check_row := _
    F_check_row := fun_mk (st := st_check_row) l_check_row c_check_row k_check_row
    b_check_row := (fun_mk (st := st_check_row) l_check_row c_check_row k_check_row).binds (ps := ["row"]) fun _ _ _ _ _ _ us hl => match us, hl with | [_], _ => rfl
    g_check_row := PySem.W.mg_of X G a_check_row
    a_RankingD_initD := f_RankingD_initD
    fd_RankingD_initD := _
    F_RankingD_initD := fun_mk (st := st_RankingD_initD) l_RankingD_initD c_RankingD_initD k_RankingD_initD
    b_RankingD_initD := (fun_mk (st := st_RankingD_initD) l_RankingD_initD c_RankingD_initD k_RankingD_initD).binds (ps := ["self", "row"]) fun _ _ _ _ _ _ us hl => match us, hl with | [_, _], _ => rfl
    mkc := ⟨cm_Ranking, a_RankingD_initD, i_RankingD_initD, ck_Ranking⟩
    kb_RankingD_initD := ⟨fun _ us ws _ l1 l2 => match us, l1, ws, l2 with | [_], _, [_], _ => .of_eq rfl, fun r1 r2 => r1.append r2⟩
    a_Ranking_of := f_Ranking_of
    fd_Ranking_of := _
    F_Ranking_of := fun_mk (st := st_Ranking_of) l_Ranking_of c_Ranking_of k_Ranking_of
    bv_Ranking_of := by exact bindV11 (fun n hn u rest hl => match n, hn, rest, hl with | 0, _, [], _ => rfl | 1, _, [_], _ => rfl | 2, _, [_, _], _ => rfl | 3, _, [_, _, _], _ => rfl | 4, _, [_, _, _, _], _ => rfl | 5, _, [_, _, _, _, _], _ => rfl | 6, _, [_, _, _, _, _, _], _ => rfl | 7, _, [_, _, _, _, _, _, _], _ => rfl | 8, _, [_, _, _, _, _, _, _, _], _ => rfl | 9, _, [_, _, _, _, _, _, _, _, _], _ => rfl | 10, _, [_, _, _, _, _, _, _, _, _, _], _ => rfl | 11, _, [_, _, _, _, _, _, _, _, _, _, _], _ => rfl | (m + 12), hn, _, _ => absurd hn (by omega))
    q_Ranking_of := q_Ranking_of
    cm_Ranking_of := ⟨a_Ranking_of, ⟨_, pr_Ranking_of⟩, fi_Ranking_of⟩
    a_RankingD_strD := f_RankingD_strD
    fd_RankingD_strD := _
    F_RankingD_strD := fun_mk (st := st_RankingD_strD) l_RankingD_strD c_RankingD_strD k_RankingD_strD
    b_RankingD_strD := (fun_mk (st := st_RankingD_strD) l_RankingD_strD c_RankingD_strD k_RankingD_strD).binds (ps := ["self"]) fun _ _ _ _ _ _ us hl => match us, hl with | [_], _ => rfl
    m_RankingD_strD := ⟨a_RankingD_strD, i_RankingD_strD, k_RankingD_strD⟩
    a_InvalidRowD_initD := f_InvalidRowD_initD
    fd_InvalidRowD_initD := _
    F_InvalidRowD_initD := fun_mk (st := st_InvalidRowD_initD) l_InvalidRowD_initD c_InvalidRowD_initD k_InvalidRowD_initD
    b_InvalidRowD_initD := (fun_mk (st := st_InvalidRowD_initD) l_InvalidRowD_initD c_InvalidRowD_initD k_InvalidRowD_initD).binds (ps := ["self", "index"]) fun _ _ _ _ _ _ us hl => match us, hl with | [_, _], _ => rfl
    ic_InvalidRow := a_InvalidRowD_initD
    ti_InvalidRow := ti_InvalidRowD_initD
    a_l_purse := f_l_purse
    fd_l_purse := _
    F_l_purse := fun_mk (st := st_l_purse) l_l_purse c_l_purse k_l_purse
    b_l_purse := (fun_mk (st := st_l_purse) l_l_purse c_l_purse k_l_purse).binds (ps := ["_law_script", "_law_spot"]) fun _ _ _ _ _ _ us hl => match us, hl with | [_, _], _ => rfl
    g_l_purse := PySem.W.mg_of X G a_l_purse
    a_l_draw := f_l_draw
    fd_l_draw := _
    F_l_draw := fun_mk (st := st_l_draw) l_l_draw c_l_draw k_l_draw
    b_l_draw := (fun_mk (st := st_l_draw) l_l_draw c_l_draw k_l_draw).binds (ps := ["_law_purse_here", "_law_many"]) fun _ _ _ _ _ _ us hl => match us, hl with | [_, _], _ => rfl
    g_l_draw := PySem.W.mg_of X G a_l_draw
    a_l_things := f_l_things
    fd_l_things := _
    F_l_things := fun_mk (st := st_l_things) l_l_things c_l_things k_l_things
    b_l_things := (fun_mk (st := st_l_things) l_l_things c_l_things k_l_things).binds (ps := ["_law_purse_here", "_law_many"]) fun _ _ _ _ _ _ us hl => match us, hl with | [_, _], _ => rfl
    g_l_things := PySem.W.mg_of X G a_l_things
    a_l_order := f_l_order
    fd_l_order := _
    F_l_order := fun_mk (st := st_l_order) l_l_order c_l_order k_l_order
    b_l_order := (fun_mk (st := st_l_order) l_l_order c_l_order k_l_order).binds (ps := ["_law_purse_here", "_law_things_here"]) fun _ _ _ _ _ _ us hl => match us, hl with | [_, _], _ => rfl
    g_l_order := PySem.W.mg_of X G a_l_order
    a_l_sort := f_l_sort
    fd_l_sort := _
    F_l_sort := fun_mk (st := st_l_sort) l_l_sort c_l_sort k_l_sort
    b_l_sort := (fun_mk (st := st_l_sort) l_l_sort c_l_sort k_l_sort).binds (ps := ["_law_e"]) fun _ _ _ _ _ _ us hl => match us, hl with | [_], _ => rfl
    g_l_sort := PySem.W.mg_of X G a_l_sort
    a_l_attribute := f_l_attribute
    fd_l_attribute := _
    F_l_attribute := fun_mk (st := st_l_attribute) l_l_attribute c_l_attribute k_l_attribute
    b_l_attribute := (fun_mk (st := st_l_attribute) l_l_attribute c_l_attribute k_l_attribute).binds (ps := ["_law_e", "_law_word"]) fun _ _ _ _ _ _ us hl => match us, hl with | [_, _], _ => rfl
    g_l_attribute := PySem.W.mg_of X G a_l_attribute
    a_l_told := f_l_told
    fd_l_told := _
    F_l_told := fun_mk (st := st_l_told) l_l_told c_l_told k_l_told
    b_l_told := (fun_mk (st := st_l_told) l_l_told c_l_told k_l_told).binds (ps := ["_law_act"]) fun _ _ _ _ _ _ us hl => match us, hl with | [_], _ => rfl
    g_l_told := PySem.W.mg_of X G a_l_told
    a_l_is_name := f_l_is_name
    fd_l_is_name := _
    F_l_is_name := fun_mk (st := st_l_is_name) l_l_is_name c_l_is_name k_l_is_name
    b_l_is_name := (fun_mk (st := st_l_is_name) l_l_is_name c_l_is_name k_l_is_name).binds (ps := ["_law_name"]) fun _ _ _ _ _ _ us hl => match us, hl with | [_], _ => rfl
    g_l_is_name := PySem.W.mg_of X G a_l_is_name
    a_l_wrong := f_l_wrong
    fd_l_wrong := _
    F_l_wrong := fun_mk (st := st_l_wrong) l_l_wrong c_l_wrong k_l_wrong
    b_l_wrong := (fun_mk (st := st_l_wrong) l_l_wrong c_l_wrong k_l_wrong).binds (ps := ["_law_rank"]) fun _ _ _ _ _ _ us hl => match us, hl with | [_], _ => rfl
    g_l_wrong := PySem.W.mg_of X G a_l_wrong
    a_l_due := f_l_due
    fd_l_due := _
    F_l_due := fun_mk (st := st_l_due) l_l_due c_l_due k_l_due
    b_l_due := (fun_mk (st := st_l_due) l_l_due c_l_due k_l_due).binds (ps := ["_law_rank"]) fun _ _ _ _ _ _ us hl => match us, hl with | [_], _ => rfl
    g_l_due := PySem.W.mg_of X G a_l_due
    a_l_made := f_l_made
    fd_l_made := _
    F_l_made := fun_mk (st := st_l_made) l_l_made c_l_made k_l_made
    b_l_made := (fun_mk (st := st_l_made) l_l_made c_l_made k_l_made).binds (ps := ["_law_rank"]) fun _ _ _ _ _ _ us hl => match us, hl with | [_], _ => rfl
    c_l_made := cc_l_made
    P_l_made := pp_l_made
    M_l_made := ⟨_, _, _, _, _, _, _, _, l_l_made, c_l_made, (fun_mk (st := st_l_made) l_l_made c_l_made k_l_made).binds (ps := ["_law_rank"]) fun _ _ _ _ _ _ us hl => match us, hl with | [_], _ => rfl⟩
    th_l_made := codeHd_of tb_l_made th_l_made
    tn_l_made := tn_l_made
    g_l_made := PySem.W.mg_of X G a_l_made
    a_l_right := f_l_right
    fd_l_right := _
    F_l_right := fun_mk (st := st_l_right) l_l_right c_l_right k_l_right
    b_l_right := (fun_mk (st := st_l_right) l_l_right c_l_right k_l_right).binds (ps := ["_law_purse_here"]) fun _ _ _ _ _ _ us hl => match us, hl with | [_], _ => rfl
    c_l_right := cc_l_right
    P_l_right := pp_l_right
    M_l_right := ⟨_, _, _, _, _, _, _, _, l_l_right, c_l_right, (fun_mk (st := st_l_right) l_l_right c_l_right k_l_right).binds (ps := ["_law_purse_here"]) fun _ _ _ _ _ _ us hl => match us, hl with | [_], _ => rfl⟩
    th_l_right := codeHd_of tb_l_right th_l_right
    tn_l_right := tn_l_right
    g_l_right := PySem.W.mg_of X G a_l_right
    a_law := fa
    fd_law := _
    F_law := fun_mk (st := st_law) l_law c_law k_law
    b_law := (fun_mk (st := st_law) l_law c_law k_law).binds (ps := ["_law_script"]) fun _ _ _ _ _ _ us hl => match us, hl with | [_], _ => rfl
    g_law := PySem.W.mg_of X G a_law
    pne_l_made_l_right := pne_l_made_l_right
    g_MOST_THINGS := ⟨_, PySem.W.mg_of X G v_MOST_THINGS⟩
    g_LETTERS := ⟨_, PySem.W.mg_of X G v_LETTERS⟩
    g_DIGITS := ⟨_, PySem.W.mg_of X G v_DIGITS⟩
    g_LONGEST_NAME := ⟨_, PySem.W.mg_of X G v_LONGEST_NAME⟩
    n_len := PySem.W.mg_none_of X G z_len
    n_isinstance := PySem.W.mg_none_of X G z_isinstance
    n_all := PySem.W.mg_none_of X G z_all
    n_enumerate := PySem.W.mg_none_of X G z_enumerate
    n_tuple := PySem.W.mg_none_of X G z_tuple
    n_sorted := PySem.W.mg_none_of X G z_sorted
    n_abs := PySem.W.mg_none_of X G z_abs
    n_int := PySem.W.mg_none_of X G z_int
    n_divmod := PySem.W.mg_none_of X G z_divmod
    n_range := PySem.W.mg_none_of X G z_range
    n_list := PySem.W.mg_none_of X G z_list
    n_repr := PySem.W.mg_none_of X G z_repr
    n_max := PySem.W.mg_none_of X G z_max
    n_min := PySem.W.mg_none_of X G z_min
    n_str := PySem.W.mg_none_of X G z_str }, rfl, pin_l_made, pin_l_right⟩
end MH
namespace MH
open PySem PySem.Spec PyProof.Rows L2
/-! ### frames -/
theorem _root_.L2.Same.sqt {K : PySem.W.Frag} {H H' : Hp} {a : Addr} {xs : List V} (e : Same H H') (h : SqT K H a xs) : SqT K H' a xs := by
  rcases h with (h | ⟨o, h⟩) | h
  · exact .inl (.inl (e _ _ h))
  · exact .inl (.inr ⟨o, e _ _ h⟩)
  · exact .inr h
theorem _root_.L2.Same.new {H : Hp} {p : Addr} {o : HO} (h : H p = none) : Same H (upd H p o) := fun b x e => by
  rw [upd_ne (ne_of_none e h)]
  exact e
theorem _root_.L2.Same.new' {H H1 : Hp} {p : Addr} {o : HO} (s : Same H H1) (h : H1 p = none) : Same H (upd H1 p o) := s.trans (Same.new h)
/-- all as it was but p -/
def SameB (p : Addr) (H H' : Hp) : Prop := ∀ b o, b ≠ p → H b = some o → H' b = some o
theorem SameB.of {p : Addr} {H H' : Hp} (s : Same H H') : SameB p H H' := fun b o _ e => s b o e
theorem SameB.refl (p : Addr) (H : Hp) : SameB p H H := fun _ _ _ e => e
theorem SameB.trans {p : Addr} {H H1 H2 : Hp} (a : SameB p H H1) (b : SameB p H1 H2) : SameB p H H2 := fun c o n e => b c o n (a c o n e)
theorem SameB.put {p : Addr} {H H1 : Hp} {o : HO} (s : SameB p H H1) : SameB p H (upd H1 p o) := fun b x n e => by
  rw [upd_ne n]
  exact s b x n e
theorem SameB.new {p q : Addr} {H H1 : Hp} {o : HO} (s : SameB p H H1) (h : H1 q = none) : SameB p H (upd H1 q o) := s.trans (SameB.of (Same.new h))
/-- a tuple stands where only a list changed -/
theorem SameB.sqt {K : PySem.W.Frag} {p a : Addr} {H H' : Hp} {xs ys : List V} (s : SameB p H H') (hp : H p = some (.lst ys)) (h : SqT K H a xs) : SqT K H' a xs := by
  rcases h with (h | ⟨o, h⟩) | h
  · exact .inl (.inl (s _ _ (ne_of h hp (by intro q; cases q)) h))
  · exact .inl (.inr ⟨o, s _ _ (ne_of h hp (by intro q; cases q)) h⟩)
  · exact .inr h
theorem tup_of {K : PySem.W.Frag} {H : Hp} {a : Addr} {xs : List V} (h : H a = some (.tup xs)) : SqT K H a xs := .inl (.inl h)
theorem frz_of {K : PySem.W.Frag} {H : Hp} {a : Addr} {o : Obj} {xs : List V} (h : H a = some (.frz o (.tup xs))) : SqT K H a xs := .inl (.inr ⟨o, h⟩)
theorem lst_of {K : PySem.W.Frag} {H : Hp} {a : Addr} {xs : List V} (h : H a = some (.lst xs)) : SqL K H a xs := .inl (.inl h)
theorem le_line {n : Nat} (h : n ≤ 100000) : n ≤ sizeLine := Nat.le_trans h (by decide)
theorem lt_line {n : Nat} (h : n < 100000) : n < sizeLine := Nat.lt_of_lt_of_le h (by decide)

/-! ### the purse -/
def Pu (H : Hp) (p : Addr) : Prop := ∃ x y : Int, H p = some (.lst [.int x, .int y]) ∧ 0 ≤ x ∧ 0 ≤ y ∧ y < 2147483647
theorem Pu.sqt {K : PySem.W.Frag} {H H' : Hp} {p a : Addr} {xs : List V} (u : Pu H p) (s : SameB p H H') (h : SqT K H a xs) : SqT K H' a xs := by
  obtain ⟨x, y, hp, _⟩ := u
  exact s.sqt hp h
theorem Pu.same {H H' : Hp} {p : Addr} (u : Pu H p) (s : Same H H') : Pu H' p := by
  obtain ⟨x, y, hp, h⟩ := u
  exact ⟨x, y, s _ _ hp, h⟩
theorem Pu.put {H : Hp} {p q : Addr} {o u : HO} (a : Pu H p) (hq : H q = some u) (d : ∀ x y : Int, u ≠ .lst [.int x, .int y]) : Pu (upd H q o) p := by
  obtain ⟨x, y, hp, h⟩ := a
  have n : p ≠ q := fun e => by
    subst e
    rw [hp] at hq
    exact d x y (Option.some.inj hq).symm
  exact ⟨x, y, by rw [upd_ne n]; exact hp, h⟩
def spDraw : Sp := fun vs H Q _ => ∃ (p : Addr) (m : Int), vs = [.ref p, .int m] ∧ Pu H p ∧ 0 < m ∧ m < 1000000 ∧ ∀ d H', 0 ≤ d → d < m → SameB p H H' → Pu H' p → Q (.int d) H'

section
variable {P : Program} {w : World} {K : PySem.W.Frag} {mg : Str → Option Value} {base : Heap}
theorem ok_l_draw (T : Tx K mg) : FnOk P w K mg base CX0 4 T.a_l_draw T.fd_l_draw ["_law_purse_here", "_law_many"] spDraw := by
  refine T.F_l_draw.ok sc_l_draw (fun vs H Q E h => ?_) (fun cdv A outer s H vs Q E hr h => ?_)
  · obtain ⟨p, m, rfl, _⟩ := h
    rfl
  · obtain ⟨p, m, rfl, ⟨x, y, hp, hx, hy, hy2⟩, hm, hm2, k⟩ := h
    refine ⟨_, (pss_cons (ps_if (pt_cmpR op_gt (pe_ix ix_list (pv 0) pe_int (fun _ _ => rfl)) pe_int (nomark _))
        (pss_cons (ps_asg (pe_callB call_divmod (by rfl) T.n_divmod (by decide +kernel) (pa_cons (pe_ix ix_list (pv 0) pe_int (fun _ _ => rfl)) (pa_cons (pv 1) pa_nil))) (pg_tup rfl (pgs_cons (pg_sub (pv 0) pe_int set_list) (pgs_cons (pg_name (i := 2) sc_l_draw.nd rfl (Or.inl rfl)) pgs_nil))))
      (pss_one (ps_ret (pv 2))))
        pss_nil)
      (pss_cons (ps_asg (pe_op op_mod (pe_callTy call_int1 (by rfl) T.n_int (by decide +kernel) (pa_cons (pe_op op_add (pe_op op_mul (pe_ix ix_list (pv 0) pe_int (fun _ _ => rfl)) pe_int) pe_int) pa_nil)) pe_int) (pg_sub (pv 0) pe_int set_list))
      (pss_one (ps_ret (pe_op op_mod (pe_callTy call_int1 (by rfl) T.n_int (by decide +kernel) (pa_cons (pe_op op_fdiv (pe_ix ix_list (pv 0) pe_int (fun _ _ => rfl)) pe_int) pa_nil)) (pv 1)))))), ?_⟩
    refine ⟨_, rfl, p, _, 0, _, rfl, rfl, lst_of hp, rfl, _, _, rfl, rfl, _, rfl, ?_⟩
    refine ite2 (fun c => ?_) (fun c => ?_)
    · have c : 0 < x := of_decide_eq_true c
      refine ⟨_, rfl, p, _, 0, _, rfl, rfl, lst_of hp, rfl, _, rfl, _, _, rfl, ⟨hm, by omega⟩, fun t ht => ?_⟩
      have npt : p ≠ t := ne_of_none hp ht
      refine ⟨t, _, rfl, tup_of upd_same, rfl, _, _, rfl, _, rfl, p, _, 0, 0, rfl, rfl, (by rw [upd_ne npt]; exact hp), rfl, _, _, rfl, rfl, ?_⟩
      refine ⟨_, rfl, ?_⟩
      refine k _ _ (Int.emod_nonneg _ (by omega)) (Int.emod_lt_of_pos _ hm) ((SameB.refl p H).new ht).put ⟨x / m, y, ?_, Int.ediv_nonneg hx (by omega), hy, hy2⟩
      rw [upd_same]
      rfl
    · refine ⟨_, rfl, p, _, 1, _, rfl, rfl, lst_of hp, rfl, _, _, rfl, rfl, .inl ⟨by omega, by omega⟩, _, _, rfl, rfl, .inl ⟨_, rfl, _, _, rfl, rfl, (by show (0 : Int) < 2147483647; decide), ?_⟩⟩
      refine ⟨_, rfl, p, _, 1, 1, rfl, rfl, hp, rfl, ?_⟩
      refine ⟨_, rfl, p, _, 1, _, rfl, rfl, lst_of upd_same, rfl, _, _, rfl, rfl, ⟨by decide, by decide⟩, .inl ⟨_, rfl, _, rfl, _, _, rfl, rfl, hm, ?_⟩⟩
      refine k _ _ (Int.emod_nonneg _ (by omega)) (Int.emod_lt_of_pos _ hm) (SameB.refl p H).put ⟨x, _, upd_same, hx, Int.emod_nonneg _ (by decide), Int.emod_lt_of_pos _ (by decide)⟩
end
end MH
namespace MH
open PySem PySem.Spec PyProof.Rows L2
theorem cutV_mem {xs : List V} {lo hi : Option Int} {x : V} (h : x ∈ cutV xs lo hi) : x ∈ xs := List.mem_of_mem_drop (List.mem_of_mem_take h)
def spPurse (K : PySem.W.Frag) : Sp := fun vs H Q _ => ∃ (a : Addr) (ns : List Int) (i : Nat), vs = [.ref a, .int i] ∧ SqL K H a (ns.map V.int) ∧ ns.length ≤ 63 ∧ i < 1000 ∧ ∀ H' p, Same H H' → H p = none → Pu H' p → Q (.ref p) H'
section
variable {P : Program} {w : World} {K : PySem.W.Frag} {mg : Str → Option Value} {base : Heap}
theorem ok_l_purse (T : Tx K mg) : FnOk P w K mg base CX0 4 T.a_l_purse T.fd_l_purse ["_law_script", "_law_spot"] (spPurse K) := by
  refine T.F_l_purse.ok sc_l_purse (fun vs H Q E h => ?_) (fun cdv A outer s H vs Q E hr h => ?_)
  · obtain ⟨a, ns, i, rfl, _⟩ := h
    rfl
  · obtain ⟨a, ns, i, rfl, hS, hlen, hi, k⟩ := h
    refine ⟨_, (pss_cons (ps_set (i := 2) sc_l_purse.nd rfl (Or.inl rfl) (pe_ifExp (pt_cmpR op_lt (pv 1) (pe_callB call_len_seq (by rfl) T.n_len (by decide +kernel) (pa_cons (pv 0) pa_nil)) (nomark _)) (pe_ix ix_list (pv 0) (pv 1) (fun _ _ => rfl)) (pe_op op_mul pe_int (pe_op op_add (pv 1) pe_int))))
      (pss_cons (ps_set (i := 3) sc_l_purse.nd rfl (Or.inl rfl) (pe_op op_add pe_int (pv 1)))
      (pss_cons (ps_for PassesOwn.never rfl (pi_list (pe_op op_cat (pe_slice sl_list (pv 0) po_none (po_some pe_int)) (pe_lst (pa_cons (pv 2) pa_nil)))) (pg_name (i := 4) sc_l_purse.nd rfl (Or.inl rfl))
        (pss_one (ps_set (i := 3) sc_l_purse.nd rfl (Or.inl rfl) (pe_op op_mod (pe_callTy call_int1 (by rfl) T.n_int (by decide +kernel) (pa_cons (pe_op op_add (pe_op op_add (pe_op op_mul (pv 3) pe_int) (pe_op op_mod (pe_callTy call_int1 (by rfl) T.n_int (by decide +kernel) (pa_cons (pv 4) pa_nil)) pe_int)) pe_int) pa_nil)) pe_int))))
      (pss_one (ps_ret (pe_lst (pa_cons (pe_ifExp (pt_cmpR op_ge (pe_callB call_abs (by rfl) T.n_abs (by decide +kernel) (pa_cons (pv 2) pa_nil)) (pe_op op_pow pe_int pe_int) (nomark _)) (pe_callB call_abs (by rfl) T.n_abs (by decide +kernel) (pa_cons (pv 2) pa_nil)) pe_int) (pa_cons (pv 3) pa_nil)))))))), ?_⟩
    refine ⟨_, rfl, _, rfl, a, _, rfl, .inl hS, _, _, rfl, rfl, _, rfl, ?_⟩
    refine ite2 (fun c => ?a1) (fun c => ?a2)
    case' a1 =>
      have c : (i : Int) < ((ns.map V.int).length : Nat) := of_decide_eq_true c
      have c2 : i < ns.length := by
        rw [List.length_map] at c
        omega
      have g : (ns.map V.int)[i]? = some (.int ns[i]) := by
        rw [List.getElem?_map, List.getElem?_eq_getElem c2]
        rfl
      refine ⟨_, rfl, _, rfl, a, _, _, _, rfl, rfl, hS, atI_nat g, ?_⟩
      generalize ns[i] = z
    case' a2 =>
      refine ⟨_, rfl, _, _, rfl, rfl, _, _, rfl, rfl, .inl ⟨by decide, by decide⟩, ?_⟩
      show gName 2 (V.int ((7919 : Int) * ((i : Int) + 5))) _ _ _
      generalize (7919 : Int) * ((i : Int) + 5) = z
    all_goals
      refine ⟨_, rfl, _, _, rfl, rfl, ?_⟩
      refine ⟨_, rfl, 5, rfl, a, _, rfl, hS, fun p np => ?_⟩
      refine ⟨_, rfl, (by show 1 ≤ sizeLine; decide), fun q nq => ?_⟩
      have npq : p ≠ q := fun e => by
        rw [e, upd_same] at nq
        cases nq
      refine ⟨p, q, _, _, rfl, rfl, (by rw [upd_ne npq]; exact upd_same), upd_same, le_line ?_, fun r nr => ?_⟩
      · have q1 := cutV_length (ns.map V.int) none (some 5)
        rw [List.length_map] at q1
        show (cutV (ns.map V.int) none (some 5)).length + 1 ≤ 100000
        omega
      have s1 := ((Same.new np).new' nq).new' nr (o := .lst (cutV (ns.map V.int) none (some 5) ++ [V.int z]))
      refine ⟨r, rfl, ⟨_, lst_of upd_same⟩, for_list (K := K) (a := r) (xs := cutV (ns.map V.int) none (some 5) ++ [V.int z]) (fun j σ H' => ∃ (y : Int) (v : Option V), σ = [some (.ref a), some (.int i), some (.int z), some (.int y), v] ∧ 0 ≤ y ∧ y < 2147483647 ∧ Same H H' ∧ H' r = some (.lst (cutV (ns.map V.int) none (some 5) ++ [V.int z])))
        ⟨(211 : Int) + i, none, rfl, by omega, by omega, s1, upd_same⟩ (fun j σ H' _ ⟨_, _, _, _, _, _, hL⟩ => lst_of hL) ?_ ?_⟩
      · rintro j x σ H' hx ⟨y, v, rfl, h0, h1, s2, hL⟩
        obtain ⟨n, rfl⟩ : ∃ n, x = V.int n := by
          rcases List.mem_append.mp (List.mem_of_getElem? hx) with m | m
          · obtain ⟨n, _, e⟩ := List.mem_map.mp (cutV_mem m)
            exact ⟨n, e.symm⟩
          · exact ⟨z, List.mem_singleton.mp m⟩
        refine ⟨_, rfl, _, _, rfl, rfl, .inl ⟨by omega, by omega⟩, _, rfl, .inl ⟨_, rfl, _, _, rfl, rfl, (by show (0 : Int) < 2147483647; decide), _, _, rfl, rfl, _, _, rfl, rfl, .inl ⟨_, rfl, _, _, rfl, rfl, (by show (0 : Int) < 2147483647; decide), ?_⟩⟩⟩
        exact ⟨_, _, rfl, Int.emod_nonneg _ (by decide), Int.emod_lt_of_pos _ (by decide), s2, hL⟩
      · rintro σ H' ⟨y, v, rfl, h0, h1, s2, hL⟩
        refine ⟨_, rfl, _, rfl, _, _, rfl, rfl, ⟨by decide, by decide, by decide⟩, _, _, rfl, rfl, _, rfl, ?_⟩
        refine ite2 (fun c => ?_) (fun c => ?_)
        · refine ⟨_, rfl, _, rfl, _, rfl, (by show 2 ≤ sizeLine; decide), fun t nt => ?_⟩
          refine k _ _ (s2.new' nt) (s2.free nt) ⟨_, _, upd_same, ?_, h0, h1⟩
          split <;> omega
        · refine ⟨_, rfl, (by show 2 ≤ sizeLine; decide), fun t nt => ?_⟩
          exact k _ _ (s2.new' nt) (s2.free nt) ⟨_, _, upd_same, by omega, h0, h1⟩
end
end MH
namespace MH
open PySem PySem.Spec PyProof.Rows L2
theorem seqIndex_in {d : Int} {n : Nat} (h0 : 0 ≤ d) (h1 : d < n) : seqIndex? d n = some d.toNat := by
  unfold seqIndex?
  simp only
  first
    | (rw [if_pos h0]; rw [if_pos (by omega)])
    | (split <;> simp_all <;> omega)
theorem perm_pop : ∀ {l : List Str} {k : Nat} {z : Str}, l[k]? = some z → (z :: l.eraseIdx k).Perm l
  | [], k, z, h => by simp at h
  | a :: l, 0, z, h => by
    obtain rfl : a = z := Option.some.inj h
    exact List.Perm.refl _
  | a :: l, k + 1, z, h => by
    have ih := perm_pop (l := l) (k := k) (z := z) h
    exact (List.Perm.swap a z _).trans (ih.cons a)
theorem map_erase {α β : Type} (f : α → β) : ∀ (l : List α) (k : Nat), (l.eraseIdx k).map f = (l.map f).eraseIdx k
  | [], k => rfl
  | a :: l, 0 => rfl
  | a :: l, k + 1 => congrArg (f a :: ·) (map_erase f l k)
def spThings (K : PySem.W.Frag) : Sp := fun vs H Q _ => ∃ (p : Addr) (n : Int), vs = [.ref p, .int n] ∧ Pu H p ∧ 0 ≤ n ∧ n ≤ 13 ∧
  ∀ (ss : List Str) (a : Addr) (H' : Hp), ss.Nodup → sortedS ss = true → (∀ z ∈ ss, z ∈ pool) → ss.length = n.toNat → SameB p H H' → Pu H' p → SqT K H' a (ss.map V.str) → Q (.ref a) H'
section
variable {P : Program} {w : World} {K : PySem.W.Frag} {mg : Str → Option Value} {base : Heap}
theorem ok_l_things (T : Tx K mg) : FnOk P w K mg base CX0 5 T.a_l_things T.fd_l_things ["_law_purse_here", "_law_many"] (spThings K) := by
  refine T.F_l_things.ok sc_l_things (fun vs H Q E h => ?_) (fun cdv A outer s H vs Q E hr h => ?_)
  · obtain ⟨p, n, rfl, _⟩ := h
    rfl
  · obtain ⟨p, n, rfl, pu, n0, n13, k⟩ := h
    refine ⟨_, (pss_cons (ps_set (i := 2) sc_l_things.nd rfl (Or.inl rfl) (pe_lst (pa_cons pe_str (pa_cons pe_str (pa_cons pe_str (pa_cons pe_str (pa_cons pe_str (pa_cons pe_str (pa_cons pe_str (pa_cons pe_str (pa_cons pe_str (pa_cons pe_str (pa_cons pe_str (pa_cons pe_str (pa_cons pe_str pa_nil)))))))))))))))
      (pss_cons (ps_set (i := 3) sc_l_things.nd rfl (Or.inl rfl) (pe_lst pa_nil))
      (pss_cons (ps_for PassesOwn.never rfl (pi_range1 (by rfl) T.n_range (pa_cons (pv 1) pa_nil)) (pg_name (i := 4) sc_l_things.nd rfl (Or.inl rfl))
        (pss_one (ps_expr (pe_bm PySem.F.plainAttrs_list PySem.F.slot_list_append PySem.F.type_list_append mt_append (pv 3) (pa_cons (pe_bm PySem.F.plainAttrs_list PySem.F.slot_list_pop PySem.F.type_list_pop mt_popAt (pv 2) (pa_cons (pe_call (ok_l_draw T) (hr.mono (by decide)) rfl T.g_l_draw T.F_l_draw.kp T.b_l_draw .nil pass0 (pa_cons (pv 0) (pa_cons (pe_callB call_len_seq (by rfl) T.n_len (by decide +kernel) (pa_cons (pv 2) pa_nil)) pa_nil))) pa_nil)) pa_nil)))))
      (pss_one (ps_ret (pe_callTy call_tupF (by rfl) T.n_tuple (by decide +kernel) (pa_cons (pe_callB cr_sortedS (by rfl) T.n_sorted (by decide +kernel) (pa_cons (pv 3) pa_nil)) pa_nil))))))), ?_⟩
    obtain ⟨x0, y0, hp0, _⟩ := id pu
    refine ⟨(by show 13 ≤ sizeLine; decide), fun l nl => ?_⟩
    refine ⟨Nat.zero_le _, fun fo nfo => ?_⟩
    have npl : p ≠ l := ne_of_none hp0 nl
    have nlf : l ≠ fo := fun e => by
      rw [e, upd_same] at nfo
      cases nfo
    have nfo' : H fo = none := by
      rw [upd_ne nlf.symm] at nfo
      exact nfo
    have npf : p ≠ fo := ne_of_none hp0 nfo'
    have s0 : Same H (upd (upd H l (.lst (pool.map V.str))) fo (.lst [])) := (Same.new nl).new' nfo
    refine ⟨_, rfl, n, rfl, by omega, by omega, for_range (lo := 0) (n := n.toNat) (fun i σ H' => ∃ (rest found : List Str) (v : Option V), σ = [some (.ref p), some (.int n), some (.ref l), some (.ref fo), v] ∧
      H' l = some (.lst (rest.map V.str)) ∧ H' fo = some (.lst (found.map V.str)) ∧ (rest ++ found).Perm pool ∧ found.length = i ∧ SameB p H H' ∧ Pu H' p)
      ⟨pool, [], none, rfl, (by rw [upd_ne nlf]; exact upd_same), upd_same, List.Perm.refl _, rfl, .of s0, pu.same s0⟩ ?_ ?_⟩
    · rintro i σ H' hi ⟨rest, found, v, rfl, hl, hf, hpm, hlen, sb, pu1⟩
      have hsum : rest.length + found.length = 13 := by
        have := hpm.length_eq
        rw [List.length_append] at this
        exact this
      refine ⟨_, rfl, .inl ⟨rfl, _, lst_of hf⟩, _, rfl, .inl ⟨rfl, _, lst_of hl⟩, _, rfl, _, rfl, l, _, rfl, .inl (lst_of hl), p, _, rfl, pu1, ?_, ?_, fun d H2 d0 d1 sb2 pu2 => ?_⟩
      · rw [List.length_map]
        omega
      · rw [List.length_map]
        omega
      · rw [List.length_map] at d1
        have dk : d.toNat < rest.length := by omega
        have hl2 := sb2 _ _ npl.symm hl
        have hf2 := sb2 _ _ npf.symm hf
        have g : rest[d.toNat]? = some rest[d.toNat] := List.getElem?_eq_getElem dk
        refine ⟨l, _, d, d.toNat, V.str rest[d.toNat], rfl, rfl, hl2, by omega, by omega, seqIndex_in d0 (by rw [List.length_map]; exact d1), ?_, ?_⟩
        · rw [List.getElem?_map, g]
          rfl
        · refine ⟨fo, _, _, rfl, rfl, (by rw [upd_ne nlf.symm]; exact hf2), lt_line (by rw [List.length_map]; omega), ?_⟩
          refine ⟨rest.eraseIdx d.toNat, found ++ [rest[d.toNat]], _, rfl, ?_, ?_, ?_, ?_, ?_, ?_⟩
          · rw [upd_ne nlf, upd_same, map_erase]
          · rw [upd_same, List.map_append]
            rfl
          · refine List.Perm.trans ?_ hpm
            rw [← List.append_assoc]
            exact (List.perm_append_comm (l₂ := [rest[d.toNat]])).trans ((perm_pop g).append_right found)
          · rw [List.length_append, hlen]
            rfl
          · intro b o nb e
            have nbl : b ≠ l := ne_of_none e nl
            have nbf : b ≠ fo := ne_of_none e nfo'
            rw [upd_ne nbf, upd_ne nbl]
            exact sb2 _ _ nb (sb _ _ nb e)
          · obtain ⟨x2, y2, hp2, hh⟩ := pu2
            exact ⟨x2, y2, by rw [upd_ne npf, upd_ne npl]; exact hp2, hh⟩
    · rintro σ H' ⟨rest, found, v, rfl, hl, hf, hpm, hlen, sb, pu1⟩
      have nd : found.Nodup := by
        have : (rest ++ found).Nodup := hpm.nodup_iff.mpr pool_nd
        exact (List.nodup_append.mp this).2.1
      refine ⟨_, rfl, fo, found, rfl, lst_of hf, by omega, fun ys q pm so nq => ⟨q, _, rfl, .inl ⟨lst_of upd_same, fun t ot nt od => ?_⟩⟩⟩
      refine k ys t _ (pm.nodup_iff.mpr nd) so (fun z hz => hpm.subset (List.mem_append_right _ (pm.subset hz))) (by rw [pm.length_eq, hlen]) ((sb.new nq).new nt) ((pu1.same (Same.new nq)).same (Same.new nt)) (frz_of upd_same)
end
end MH
namespace MH
open PySem PySem.Spec PyProof.Rows L2
def spOrder (K : PySem.W.Frag) : Sp := fun vs H Q _ => ∃ (p t : Addr) (ss : List Str), vs = [.ref p, .ref t] ∧ Pu H p ∧ SqT K H t (ss.map V.str) ∧ ss.length ≤ 1000 ∧
  ∀ (row : List Str) (a : Addr) (H' : Hp), row.Perm ss → SameB p H H' → Pu H' p → TupO H' a (row.map V.str) → Q (.ref a) H'
section
variable {P : Program} {w : World} {K : PySem.W.Frag} {mg : Str → Option Value} {base : Heap}
theorem ok_l_order (T : Tx K mg) : FnOk P w K mg base CX0 5 T.a_l_order T.fd_l_order ["_law_purse_here", "_law_things_here"] (spOrder K) := by
  refine T.F_l_order.ok sc_l_order (fun vs H Q E h => ?_) (fun cdv A outer s H vs Q E hr h => ?_)
  · obtain ⟨p, n, ss, rfl, _⟩ := h
    rfl
  · obtain ⟨p, t, ss, rfl, pu, hT, hz, k⟩ := h
    refine ⟨_, (pss_cons (ps_par (i := 2) (j := 3) rfl sc_l_order.nd rfl rfl (by decide) rfl rfl (pa_cons (pe_callTy call_list_of (by rfl) T.n_list (by decide +kernel) (pa_cons (pv 1) pa_nil)) (pa_cons (pe_lst pa_nil) pa_nil)) (by rfl))
      (pss_cons (ps_for PassesOwn.never rfl (pi_range1 (by rfl) T.n_range (pa_cons (pe_callB call_len_seq (by rfl) T.n_len (by decide +kernel) (pa_cons (pv 1) pa_nil)) pa_nil)) (pg_name (i := 4) sc_l_order.nd rfl (Or.inl rfl))
        (pss_one (ps_expr (pe_bm PySem.F.plainAttrs_list PySem.F.slot_list_append PySem.F.type_list_append mt_append (pv 3) (pa_cons (pe_bm PySem.F.plainAttrs_list PySem.F.slot_list_pop PySem.F.type_list_pop mt_popAt (pv 2) (pa_cons (pe_call (ok_l_draw T) (hr.mono (by decide)) rfl T.g_l_draw T.F_l_draw.kp T.b_l_draw .nil pass0 (pa_cons (pv 0) (pa_cons (pe_callB call_len_seq (by rfl) T.n_len (by decide +kernel) (pa_cons (pv 2) pa_nil)) pa_nil))) pa_nil)) pa_nil)))))
      (pss_one (ps_ret (pe_callTy call_tupF (by rfl) T.n_tuple (by decide +kernel) (pa_cons (pv 3) pa_nil)))))), ?_⟩
    obtain ⟨x0, y0, hp0, _⟩ := id pu
    refine ⟨_, rfl, t, _, rfl, .inr hT, fun l nl => ?_⟩
    refine ⟨Nat.zero_le _, fun fo nfo => ⟨_, _, rfl, ?_⟩⟩
    have npl : p ≠ l := ne_of_none hp0 nl
    have nlf : l ≠ fo := fun e => by
      rw [e, upd_same] at nfo
      cases nfo
    have nfo' : H fo = none := by
      rw [upd_ne nlf.symm] at nfo
      exact nfo
    have npf : p ≠ fo := ne_of_none hp0 nfo'
    have s0 : Same H (upd (upd H l (.lst (ss.map V.str))) fo (.lst [])) := (Same.new nl).new' nfo
    refine ⟨_, rfl, t, _, rfl, .inr (s0.sqt hT), _, rfl, by omega, by rw [List.length_map]; omega, for_range (lo := 0) (n := ((((ss.map V.str).length : Nat) : Int)).toNat) (fun i σ H' => ∃ (rest found : List Str) (v : Option V), σ = [some (.ref p), some (.ref t), some (.ref l), some (.ref fo), v] ∧
      H' l = some (.lst (rest.map V.str)) ∧ H' fo = some (.lst (found.map V.str)) ∧ (rest ++ found).Perm ss ∧ found.length = i ∧ SameB p H H' ∧ Pu H' p)
      ⟨ss, [], none, rfl, (by rw [upd_ne nlf]; exact upd_same), upd_same, (by rw [List.append_nil]), rfl, .of s0, pu.same s0⟩ ?_ ?_⟩
    · rintro i σ H' hi ⟨rest, found, v, rfl, hl, hf, hpm, hlen, sb, pu1⟩
      rw [List.length_map] at hi
      have hsum : rest.length + found.length = ss.length := by
        have := hpm.length_eq
        rw [List.length_append] at this
        exact this
      refine ⟨_, rfl, .inl ⟨rfl, _, lst_of hf⟩, _, rfl, .inl ⟨rfl, _, lst_of hl⟩, _, rfl, _, rfl, l, _, rfl, .inl (lst_of hl), p, _, rfl, pu1, ?_, ?_, fun d H2 d0 d1 sb2 pu2 => ?_⟩
      · rw [List.length_map]
        omega
      · rw [List.length_map]
        omega
      · rw [List.length_map] at d1
        have dk : d.toNat < rest.length := by omega
        have hl2 := sb2 _ _ npl.symm hl
        have hf2 := sb2 _ _ npf.symm hf
        have g : rest[d.toNat]? = some rest[d.toNat] := List.getElem?_eq_getElem dk
        refine ⟨l, _, d, d.toNat, V.str rest[d.toNat], rfl, rfl, hl2, by omega, by omega, seqIndex_in d0 (by rw [List.length_map]; exact d1), ?_, ?_⟩
        · rw [List.getElem?_map, g]
          rfl
        · refine ⟨fo, _, _, rfl, rfl, (by rw [upd_ne nlf.symm]; exact hf2), lt_line (by rw [List.length_map]; omega), ?_⟩
          refine ⟨rest.eraseIdx d.toNat, found ++ [rest[d.toNat]], _, rfl, ?_, ?_, ?_, ?_, ?_, ?_⟩
          · rw [upd_ne nlf, upd_same, map_erase]
          · rw [upd_same, List.map_append]
            rfl
          · refine List.Perm.trans ?_ hpm
            rw [← List.append_assoc]
            exact (List.perm_append_comm (l₂ := [rest[d.toNat]])).trans ((perm_pop g).append_right found)
          · rw [List.length_append, hlen]
            rfl
          · intro b o nb e
            have nbl : b ≠ l := ne_of_none e nl
            have nbf : b ≠ fo := ne_of_none e nfo'
            rw [upd_ne nbf, upd_ne nbl]
            exact sb2 _ _ nb (sb _ _ nb e)
          · obtain ⟨x2, y2, hp2, hh⟩ := pu2
            exact ⟨x2, y2, by rw [upd_ne npf, upd_ne npl]; exact hp2, hh⟩
    · rintro σ H' ⟨rest, found, v, rfl, hl, hf, hpm, hlen, sb, pu1⟩
      have e0 : rest = [] := by
        have := hpm.length_eq
        rw [List.length_append, hlen] at this
        simp at this
        exact this
      subst e0
      refine ⟨_, rfl, fo, _, rfl, .inl ⟨lst_of hf, fun t' ot nt od => ?_⟩⟩
      exact k found t' _ hpm (sb.new nt) (pu1.same (Same.new nt)) ⟨ot, upd_same, od⟩
end
end MH
namespace MH
open PySem PySem.Spec PyProof.Rows L2
theorem _root_.L2.SqT.ty {K : PySem.W.Frag} {H : Hp} {a : Addr} {xs : List V} (h : SqT K H a xs) : TyX K H (.ref a) (.type "tuple") := by
  rcases h with (h | ⟨o, h⟩) | ⟨o, its, n, h, c, _⟩
  · exact .base (.tup h)
  · exact .fTuple h
  · exact .kTuple h c
theorem ifT {c : Bool} {A B : Prop} (h : c = true) (a : A) : if c = true then A else B := by
  rw [if_pos h]
  exact a
theorem ifF {c : Bool} {A B : Prop} (h : c = false) (b : B) : if c = true then A else B := by
  rw [h, if_neg Bool.false_ne_true]
  exact b
theorem inV_strs (z : Str) : ∀ ss : List Str, inV (.str z) (ss.map V.str) = decide (z ∈ ss)
  | [] => rfl
  | y :: r => by
    have ih := inV_strs z r
    show (y == z || inV (.str z) (r.map V.str)) = decide (z ∈ y :: r)
    rw [ih]
    by_cases e : y = z
    · subst e
      simp
    · have e2 : ¬ z = y := fun q => e q.symm
      simp [e, e2]
theorem flat_strs (ss : List Str) : (ss.map V.str).all flatV = true := by
  rw [List.all_eq_true]
  intro v hv
  obtain ⟨z, _, rfl⟩ := List.mem_map.mp hv
  rfl
theorem cut_upto (xs : List V) (i : Nat) : cutV xs none (some (i : Int)) = xs.take i := by
  unfold cutV
  rw [HT.sIx_none, HT.sIx_nat, Nat.sub_zero, List.drop_zero]
  rcases Nat.le_total i xs.length with h | h
  · rw [Nat.min_eq_left h]
  · rw [Nat.min_eq_right h, List.take_of_length_le (Nat.le_refl _), List.take_of_length_le h]
theorem cut_from (xs : List V) (i : Nat) : cutV xs (some (i : Int)) none = xs.drop i := by
  unfold cutV
  rw [HT.sIx_none, HT.sIx_nat]
  rcases Nat.le_total i xs.length with h | h
  · rw [Nat.min_eq_left h, List.take_of_length_le]
    rw [List.length_drop]
    exact Nat.le_refl _
  · rw [Nat.min_eq_right h, Nat.sub_self, List.drop_of_length_le h]
    rfl
/-- a slice of a tuple: itself or a new one -/
theorem slA_of {K : PySem.W.Frag} {H : Hp} {a : Addr} {xs : List V} {lo hi : Option Int} {Q : VK} (h : SqT K H a xs) (k : ∀ p H', Same H H' → SqT K H' p (cutV xs lo hi) → Q (.ref p) H') : rSlA K (.ref a) lo hi H Q := by
  refine ⟨a, xs, rfl, h, fun ⟨e1, e2⟩ => ?_, fun _ p np => k p _ (Same.new np) (tup_of upd_same)⟩
  have e : cutV xs lo hi = xs := by
    unfold cutV
    rw [e1, e2, Nat.sub_zero, List.drop_zero, List.take_of_length_le (Nat.le_refl _)]
  exact k a H (Same.refl H) (by rw [e]; exact h)
theorem walk_enumT {K : PySem.W.Frag} {a : Addr} {xs : List V} : Walk (IteT K a) xs.length (fun H => SqT K H a xs) (YPair (fun i => some (.int (i : Nat))) (fun i => xs[i]?)) where
  goes := fun i H hi h => ⟨xs, xs[i], h, by simp [hi]⟩
  stops := fun H h => ⟨xs, h, Nat.le_refl _⟩
  yields := fun i H x H' hi h ⟨T, y, e, n, e2, f⟩ => ⟨T, _, y, e, n, e2, rfl, f _ h⟩

/-- what was told of an object stands, the purse and tables of code aside -/
def Frm (H H' : Hp) : Prop := ∀ b o, H b = some o → (∀ x y : Int, o ≠ .lst [.int x, .int y]) → (∀ ps, o ≠ .tbl ps) → H' b = some o
theorem Frm.of {H H' : Hp} (s : Same H H') : Frm H H' := fun b o e _ _ => s b o e
theorem Frm.trans {H H1 H2 : Hp} (a : Frm H H1) (b : Frm H1 H2) : Frm H H2 := fun c o e n t => b c o (a c o e n t) n t
theorem Frm.sqt {K : PySem.W.Frag} {H H' : Hp} {a : Addr} {xs : List V} (f : Frm H H') (h : SqT K H a xs) : SqT K H' a xs := by
  rcases h with (h | ⟨o, h⟩) | h
  · exact .inl (.inl (f _ _ h (fun _ _ z => nomatch z) fun _ z => nomatch z))
  · exact .inl (.inr ⟨o, f _ _ h (fun _ _ z => nomatch z) fun _ z => nomatch z⟩)
  · exact .inr h
/-- what may stand in a row -/
def El (K : PySem.W.Frag) (H : Hp) (v : V) : Prop := (∃ z : Str, v = .str z ∧ SgOk z ∧ z.length ≤ 1000) ∨ v = .non ∨ (∃ i, v = .int i) ∨ (∃ b, v = .bl b) ∨ (∃ b xs, v = .ref b ∧ SqT K H b xs) ∨ (∃ b, v = .ref b ∧ (H b = some (.lst []) ∨ H b = some (.dK [])))
theorem El.frm {K : PySem.W.Frag} {H H' : Hp} {v : V} (f : Frm H H') (h : El K H v) : El K H' v := by
  rcases h with h | h | h | h | ⟨b, xs, e, h⟩ | ⟨b, e, h | h⟩
  · exact .inl h
  · exact .inr (.inl h)
  · exact .inr (.inr (.inl h))
  · exact .inr (.inr (.inr (.inl h)))
  · exact .inr (.inr (.inr (.inr (.inl ⟨b, xs, e, f.sqt h⟩))))
  · exact .inr (.inr (.inr (.inr (.inr ⟨b, e, .inl (f _ _ h (fun _ _ z => nomatch z) fun _ z => nomatch z)⟩))))
  · exact .inr (.inr (.inr (.inr (.inr ⟨b, e, .inr (f _ _ h (fun _ _ z => nomatch z) fun _ z => nomatch z)⟩))))
theorem El.kind {K : PySem.W.Frag} {H : Hp} {v : V} (h : El K H v) : (∃ z : Str, v = .str z ∧ SgOk z ∧ z.length ≤ 1000) ∨ ((∀ z, v ≠ .str z) ∧ ∃ T : String, TyX K H v (.type T) ∧ kitB T "str" = some false) := by
  rcases h with h | rfl | ⟨i, rfl⟩ | ⟨b, rfl⟩ | ⟨b, xs, rfl, h⟩ | ⟨b, rfl, h | h⟩
  · exact .inl h
  · exact .inr ⟨nofun, _, .base .non, by decide +kernel⟩
  · exact .inr ⟨nofun, _, .base (.int i), by decide +kernel⟩
  · exact .inr ⟨nofun, _, .base (.bl b), by decide +kernel⟩
  · exact .inr ⟨nofun, _, h.ty, by decide +kernel⟩
  · exact .inr ⟨nofun, _, .base (.lst h), by decide +kernel⟩
  · exact .inr ⟨nofun, _, .base (.dK h), by decide +kernel⟩
/-- what a ranking is asked to be made of: a tuple (what it holds), or no tuple -/
def Av (K : PySem.W.Frag) (C : Addr) (H : Hp) (v : V) : Option (List V) → Prop
  | some row => ∃ a, v = .ref a ∧ SqT K H a row ∧ row.length ≤ 1000 ∧ ∀ x ∈ row, El K H x
  | none => v = .non ∨ (∃ i, v = .int i) ∨ (∃ b, v = .bl b) ∨ (∃ z, v = .str z) ∨ (∃ b, ∃ ss : List Str, v = .ref b ∧ H b = some (.lst (ss.map V.str))) ∨ (∃ b, v = .ref b ∧ H b = some (.dK [])) ∨ (∃ b dx fs, v = .ref b ∧ H b = some (.ins C dx fs))
theorem Av.frm {K : PySem.W.Frag} {C : Addr} {H H' : Hp} {v : V} {o : Option (List V)} (f : Frm H H') (h : Av K C H v o) : Av K C H' v o := by
  cases o with
  | some row =>
    obtain ⟨a, e, h1, h2, h3⟩ := h
    exact ⟨a, e, f.sqt h1, h2, fun x hx => (h3 x hx).frm f⟩
  | none =>
    rcases h with h | h | h | h | ⟨b, ss, e, h⟩ | ⟨b, e, h⟩ | ⟨b, dx, fs, e, h⟩
    · exact .inl h
    · exact .inr (.inl h)
    · exact .inr (.inr (.inl h))
    · exact .inr (.inr (.inr (.inl h)))
    · refine .inr (.inr (.inr (.inr (.inl ⟨b, ss, e, f _ _ h (fun x y z => ?_) fun _ z => nomatch z⟩))))
      have z := HO.lst.inj z
      match ss, z with
      | a :: r, z => exact nomatch (List.cons.inj z).1
    · exact .inr (.inr (.inr (.inr (.inr (.inl ⟨b, e, f _ _ h (fun _ _ z => nomatch z) fun _ z => nomatch z⟩)))))
    · exact .inr (.inr (.inr (.inr (.inr (.inr ⟨b, dx, fs, e, f _ _ h (fun _ _ z => nomatch z) fun _ z => nomatch z⟩)))))
theorem Av.no {K : PySem.W.Frag} {mg : Str → Option Value} (T : Tx K mg) {H : Hp} {v : V} (h : Av K T.C H v none) : ∃ t, TyX K H v t ∧ PySem.W.kitOne K t (.type "tuple") = some false := by
  rcases h with rfl | ⟨i, rfl⟩ | ⟨b, rfl⟩ | ⟨z, rfl⟩ | ⟨b, ss, rfl, h⟩ | ⟨b, rfl, h⟩ | ⟨b, dx, fs, rfl, h⟩
  · exact ⟨_, .base .non, kit_ty (by decide +kernel)⟩
  · exact ⟨_, .base (.int i), kit_ty (by decide +kernel)⟩
  · exact ⟨_, .base (.bl b), kit_ty (by decide +kernel)⟩
  · exact ⟨_, .base (.str z), kit_ty (by decide +kernel)⟩
  · exact ⟨_, .base (.lst h), kit_ty (by decide +kernel)⟩
  · exact ⟨_, .base (.dK h), kit_ty (by decide +kernel)⟩
  · exact ⟨_, T.ty h, T.ki_tuple⟩
def strOf : V → Str
  | .str z => z
  | _ => ""
def nmV : V → Bool
  | .str z => nameOk z
  | _ => false
theorem nmV_no {v : V} (h : ∀ z, v ≠ .str z) : nmV v = false := by
  cases v <;> first | rfl | exact absurd rfl (h _)
theorem nmV_str {v : V} (h : nmV v = true) : v = .str (strOf v) ∧ nameOk (strOf v) = true := by
  cases v <;> first | exact ⟨rfl, h⟩ | cases h
/-- what cannot stand at this place of a row -/
def badQ (row : List V) (k : Nat) : Bool := decide (10 ≤ k) || (!nmV (row.getD k .non) || decide (row.getD k .non ∈ row.take k))
/-- the first place at which something cannot stand -/
def badV (row : List V) : Option Nat := (List.range row.length).find? (badQ row)
theorem badV_some {row : List V} {i : Nat} (hi : i < row.length) (b : badQ row i = true) (h : ∀ j, j < i → badQ row j = false) : badV row = some i := by
  unfold badV
  rw [List.find?_range_eq_some]
  exact ⟨b, List.mem_range.mpr hi, fun j hj => by rw [h j hj]; rfl⟩
theorem badV_none {row : List V} (h : ∀ j, j < row.length → badQ row j = false) : badV row = none := by
  unfold badV
  rw [List.find?_eq_none]
  intro j hj
  rw [h j (List.mem_range.mp hj)]
  simp
theorem badV_lt {row : List V} {i : Nat} (h : badV row = some i) : i < row.length := List.mem_range.mp (List.mem_of_find?_eq_some h)
theorem getDv {row : List V} {i : Nat} {z : V} (h : row[i]? = some z) : row.getD i .non = z := by
  rw [List.getD_eq_getElem?_getD, h]
  rfl
theorem badQ_ok {row : List V} {k : Nat} (hk : k < row.length) (h : badQ row k = false) : k < 10 ∧ nmV row[k] = true ∧ row[k] ∉ row.take k := by
  have g : row.getD k .non = row[k] := getDv (List.getElem?_eq_getElem hk)
  unfold badQ at h
  rw [g, Bool.or_eq_false_iff, Bool.or_eq_false_iff] at h
  obtain ⟨h1, h2, h3⟩ := h
  exact ⟨Nat.lt_of_not_le (of_decide_eq_false h1), by simpa using h2, of_decide_eq_false h3⟩
/-- ahead of the first wrong place all are names -/
theorem names_take {row : List V} {i : Nat} (h : ∀ j, j < i → badQ row j = false) : row.take i = ((row.take i).map strOf).map V.str := by
  rw [List.map_map]
  have q : ∀ x ∈ row.take i, (V.str ∘ strOf) x = x := fun x hx => by
    obtain ⟨j, hj, e⟩ := List.mem_iff_getElem.mp hx
    rw [List.length_take] at hj
    rw [List.getElem_take] at e
    have := (badQ_ok (by omega) (h j (by omega))).2.1
    rw [e] at this
    exact (nmV_str this).1.symm
  rw [List.map_congr_left q]
  simp
theorem mem_strs {z : Str} : ∀ {ss : List Str}, V.str z ∈ ss.map V.str ↔ z ∈ ss := by
  intro ss
  rw [List.mem_map]
  exact ⟨fun ⟨y, hy, e⟩ => by rw [← V.str.inj e]; exact hy, fun h => ⟨z, h, rfl⟩⟩
structure RowOk (row : List Str) : Prop where
  ne : row ≠ []
  le : row.length ≤ 10
  nd : row.Nodup
  ok : ∀ z ∈ row, nameOk z = true
/-- a row in which all can stand -/
theorem rowOk_of {row : List V} (hne : row ≠ []) (h : badV row = none) : row = (row.map strOf).map V.str ∧ RowOk (row.map strOf) := by
  have h' : ∀ j, (hj : j < row.length) → badQ row j = false := fun j hj => by
    unfold badV at h
    rw [List.find?_eq_none] at h
    have := h j (List.mem_range.mpr hj)
    simpa using this
  have e : row = (row.map strOf).map V.str := by
    have q := names_take (row := row) (i := row.length) h'
    rw [List.take_length] at q
    exact q
  refine ⟨e, ?_, ?_, ?_, fun z hz => ?_⟩
  · cases row with
    | nil => exact absurd rfl hne
    | cons a r => exact List.cons_ne_nil _ _
  · rw [List.length_map]
    by_cases q : row.length ≤ 10
    · exact q
    · have := (badQ_ok (k := 10) (by omega) (h' 10 (by omega))).1
      omega
  · rw [List.nodup_iff_pairwise_ne, List.pairwise_iff_getElem]
    intro i j hi hj hij ee
    rw [List.length_map] at hi hj
    rw [List.getElem_map, List.getElem_map] at ee
    have b1 := badQ_ok hj (h' j hj)
    have b2 := badQ_ok hi (h' i hi)
    refine b1.2.2 ?_
    rw [(nmV_str b1.2.1).1, ← ee, ← (nmV_str b2.2.1).1]
    rw [List.mem_iff_getElem]
    exact ⟨i, by rw [List.length_take]; omega, by rw [List.getElem_take]⟩
  · obtain ⟨x, hx, rfl⟩ := List.mem_map.mp hz
    obtain ⟨j, hj, rfl⟩ := List.mem_iff_getElem.mp hx
    exact (nmV_str (badQ_ok hj (h' j hj)).2.1).2
def optV : Option Nat → V
  | none => .non
  | some i => .int (i : Nat)
/-- the index that is told of what is no row; none of a row -/
def errO : Option (List V) → Option V
  | none => some .non
  | some row => if row = [] then some .non else match badV row with
    | none => none
    | some i => some (.int (i : Nat))
def spIsName (K : PySem.W.Frag) : Sp := fun vs H Q _ => ∃ v : V, vs = [v] ∧ El K H v ∧ ∀ H', Same H H' → Q (.bl (nmV v)) H'
def filledO : Option (List V) → Bool
  | some row => decide (0 < row.length)
  | none => false
def spFilled (K : PySem.W.Frag) (C : Addr) : Sp := fun vs H Q _ => ∃ (v : V) (o : Option (List V)), vs = [v] ∧ Av K C H v o ∧ Q (.bl (filledO o)) H
def spFirst (K : PySem.W.Frag) : Sp := fun vs H Q _ => ∃ (t : Addr) (row : List V), vs = [.ref t] ∧ SqT K H t row ∧ (∀ x ∈ row, El K H x) ∧ ∀ H', Same H H' → Q (optV (badV row)) H'
section
variable {P : Program} {w : World} {K : PySem.W.Frag} {mg : Str → Option Value} {base : Heap}
theorem ok_is_filled_tuple (T : Tx K mg) : FnOk P w K mg base CX0 1 T.a_is_filled_tuple T.fd_is_filled_tuple ["value"] (spFilled K T.C) := by
  refine T.F_is_filled_tuple.ok sc_is_filled_tuple (fun vs H Q E h => ?_) (fun cdv A outer s H vs Q E hr h => ?_)
  · obtain ⟨v, o, rfl, _⟩ := h
    rfl
  · obtain ⟨v, o, rfl, av, k⟩ := h
    refine ⟨_, (pss_one (ps_ret (pe_and (pe_callB call_isi (by rfl) T.n_isinstance (by decide +kernel) (pa_cons (pv 0) (pa_cons (pe_bltn (v := .ty "tuple") (by rfl) T.n_tuple (by decide +kernel) rfl) pa_nil))) (pe_one (pe_cmpR op_gt (pe_callB call_len_seq (by rfl) T.n_len (by decide +kernel) (pa_cons (pv 0) pa_nil)) pe_int (nomark _)))))), ?_⟩
    cases o with
    | some xs =>
      obtain ⟨a, rfl, hT, _⟩ := av
      refine ⟨_, rfl, _, _, _, _, true, rfl, .ty _, hT.ty, kit_ty (by decide +kernel), true, rfl, iteT ?_⟩
      refine ⟨_, rfl, a, _, rfl, .inr hT, _, _, rfl, rfl, ?_⟩
      have e : decide ((0 : Int) < (xs.length : Nat)) = decide (0 < xs.length) := by simp
      show Q (.bl (decide ((0 : Int) < (xs.length : Nat)))) H
      rw [e]
      exact k
    | none =>
      obtain ⟨t, ty, kt⟩ := Av.no T av
      exact ⟨_, rfl, _, _, _, _, false, rfl, .ty _, ty, kt, false, rfl, iteF k⟩
theorem ok_is_name (T : Tx K mg) : FnOk P w K mg base CX0 1 T.a_is_name T.fd_is_name ["value"] (spIsName K) := by
  refine T.F_is_name.ok sc_is_name (fun vs H Q E h => ?_) (fun cdv A outer s H vs Q E hr h => ?_)
  · obtain ⟨z, rfl, _⟩ := h
    rfl
  · obtain ⟨v, rfl, el, k⟩ := h
    refine ⟨_, (pss_cons (ps_if (PW.pt (pw_or (pt_not (pt_val (pe_callB call_isi (by rfl) T.n_isinstance (by decide +kernel) (pa_cons (pv 0) (pa_cons (pe_bltn (v := .ty "str") (by rfl) T.n_str (by decide +kernel) rfl) pa_nil))))) (pw_or1 (pt_not (pt_chain op_le op_le pe_int (pe_callB call_len_str (by rfl) T.n_len (by decide +kernel) (pa_cons (pv 0) pa_nil)) (pe_glob (v := .int 8) rfl T.g_LONGEST_NAME.choose_spec ⟨_, rfl⟩))))))
        (pss_one (ps_ret pe_bl))
        pss_nil)
      (pss_one (ps_ret (pe_and (pe_cmpR op_in_sign (pe_ix ix_str (pv 0) pe_int (fun _ _ => rfl)) (pe_glob (v := .str "abcdefghijklmnopqrstuvwxyz") rfl T.g_LETTERS.choose_spec ⟨_, rfl⟩) (by rfl)) (pe_one (pe_callB (cr_all rfl) (by rfl) T.n_all (by decide +kernel) (pa_cons (pe_lc (own := [("sign", 1)]) (g := gName 1) (tt := tYes) rfl sc_is_name.nd (pi_str (pv 0)) (blkOk_by (own := [("sign", 1)]) (N := names_is_name) (sc := defScope st_is_name) (by decide +kernel)) (fun _ _ _ _ _ => pg_name (i := 1) sc_is_name.nd rfl (Or.inl rfl)) (fun _ _ _ _ _ => pts_nil) (fun _ _ _ _ _ => (pe_or (pe_cmpR op_in_sign (pv 1) (pe_glob (v := .str "abcdefghijklmnopqrstuvwxyz") rfl T.g_LETTERS.choose_spec ⟨_, rfl⟩) (by rfl)) (pe_one (pe_cmpR op_in_sign (pv 1) (pe_glob (v := .str "0123456789") rfl T.g_DIGITS.choose_spec ⟨_, rfl⟩) (by rfl)))))) pa_nil))))))), ?_⟩
    rcases el.kind with ⟨z, rfl, _, hz1⟩ | ⟨nz, t, ty, kt⟩
    rotate_left
    · have z0 := k H (Same.refl H)
      rw [nmV_no nz] at z0
      exact ⟨_, rfl, _, _, _, _, false, rfl, .ty _, ty, kit_ty kt, false, rfl, iteT z0⟩
    have hz : z.length ≤ 100000 := by omega
    have k : ∀ H', Same H H' → Q (.bl (nameOk z)) H' := k
    refine ⟨_, rfl, _, _, _, _, true, rfl, .ty _, .base (.str z), kit_ty (by decide +kernel), true, rfl, iteF ?_⟩
    refine ⟨_, rfl, z, rfl, le_line hz, _, _, rfl, rfl, _, rfl, ?_⟩
    by_cases h1 : 1 ≤ z.length
    · refine ifT (decide_eq_true (show (1 : Int) ≤ (z.length : Nat) by omega)) ?_
      refine ⟨_, _, rfl, rfl, _, rfl, ?_⟩
      by_cases h2 : z.length ≤ 8
      · refine ifF (by simp; omega) ?_
        have hne : z.cps.toList ≠ [] := fun e => by
          have : z.cps.size = 0 := by rw [← Array.length_toList, e]; rfl
          have e2 : z.length = z.cps.size := rfl
          omega
        obtain ⟨c0, rest, ec⟩ : ∃ c r, z.cps.toList = c :: r := List.exists_cons_of_ne_nil hne
        have en : nameOk z = (isL c0 && z.cps.toList.all fun c => isL c || isD c) := by
          unfold nameOk
          rw [decide_eq_true h1, decide_eq_true h2, ec]
          rfl
        refine ⟨_, rfl, z, 0, c0, rfl, rfl, le_line hz, (by rw [ec]; exact atI_nat (j := 0) rfl), c0, letters, rfl, rfl, isL c0, rfl, ?_⟩
        cases hc : isL c0 with
        | false =>
          refine iteF ?_
          have z0 := k H (Same.refl H)
          rw [en, hc] at z0
          exact z0
        | true =>
          refine iteT ?_
          refine ⟨_, rfl, z, rfl, fun D nD => lc_it (w := walk_str) (fun i H' => Same H H' ∧ H' D = some (.lst ((z.cps.toList.take i).map fun c => V.bl (isL c || isD c)))) ⟨Same.new nD, upd_same⟩ (fun _ _ _ _ => trivial) ?_ ?_⟩
          · rintro i x H1 H2 hi ⟨s1, e1⟩ ⟨rfl, c, hc, rfl⟩
            refine ⟨rfl, ?_⟩
            refine ⟨_, rfl, c, letters, rfl, rfl, isL c, rfl, ?_⟩
            have done : ∀ b : Bool, b = (isL c || isD c) → ∃ acc, H2 D = some (.lst acc) ∧ acc.length < sizeLine ∧ (Same H (upd H2 D (.lst (acc ++ [V.bl b]))) ∧ (upd H2 D (.lst (acc ++ [V.bl b]))) D = some (.lst ((z.cps.toList.take (i + 1)).map fun c => V.bl (isL c || isD c)))) := fun b hb => by
              refine ⟨_, e1, lt_line ?_, fun q o e => ?_, ?_⟩
              · have : z.cps.toList.length = z.length := rfl
                rw [List.length_map, List.length_take]
                omega
              · rw [upd_ne (ne_of_none e nD)]
                exact s1 _ _ e
              · rw [upd_same, hb]
                have g : z.cps.toList[i]? = some c := by
                  rw [Array.getElem?_toList]
                  exact hc
                rw [List.take_add_one, g, List.map_append]
                rfl
            cases hl : isL c with
            | true => exact iteT (done true (by rw [hl]; rfl))
            | false => exact iteF ⟨_, rfl, c, digits, rfl, rfl, done (isD c) (by rw [hl]; rfl)⟩
          · rintro H1 ⟨s1, e1⟩
            refine ⟨D, z.cps.toList.map fun c => isL c || isD c, rfl, lst_of ?_, ?_⟩
            · have : z.cps.toList.length ≤ z.cps.size := Nat.le_refl _
              rw [e1, List.take_of_length_le this, List.map_map]
              rfl
            · have z0 := k H1 s1
              rw [en, hc] at z0
              have e3 : (z.cps.toList.map fun c => isL c || isD c).all id = z.cps.toList.all fun c => isL c || isD c := by
                rw [List.all_map]
                rfl
              rw [e3]
              exact z0
      · refine ifT (by simp; omega) ?_
        have z0 := k H (Same.refl H)
        have en : nameOk z = false := by
          unfold nameOk
          rw [decide_eq_false h2]
          simp
        rw [en] at z0
        exact z0
    · refine ifF (decide_eq_false (show ¬ (1 : Int) ≤ (z.length : Nat) by omega)) ?_
      refine ⟨_, rfl, iteT ?_⟩
      have z0 := k H (Same.refl H)
      have en : nameOk z = false := by
        unfold nameOk
        rw [decide_eq_false h1]
        rfl
      rw [en] at z0
      exact z0
theorem ok_first_wrong_in_row (T : Tx K mg) : FnOk P w K mg base CX0 2 T.a_first_wrong_in_row T.fd_first_wrong_in_row ["row"] (spFirst K) := by
  refine T.F_first_wrong_in_row.ok sc_first_wrong_in_row (fun vs H Q E h => ?_) (fun cdv A outer s H vs Q E hr h => ?_)
  · obtain ⟨t, row, rfl, _⟩ := h
    rfl
  · obtain ⟨t, row, rfl, hT, hEl, k⟩ := h
    refine ⟨_, (pss_cons (ps_for PassesOwn.never rfl (pi_enumT (by rfl) T.n_enumerate (pa_cons (pv 0) pa_nil)) (pg_tup rfl (pgs_cons (pg_name (i := 1) sc_first_wrong_in_row.nd rfl (Or.inl rfl)) (pgs_cons (pg_name (i := 2) sc_first_wrong_in_row.nd rfl (Or.inl rfl)) pgs_nil)))
        (pss_one (ps_if (PW.pt (pw_or (pt_cmpR op_ge (pv 1) (pe_glob (v := .int 10) rfl T.g_MOST_THINGS.choose_spec ⟨_, rfl⟩) (nomark _)) (pw_or (pt_not (pt_val (pe_call (ok_is_name T) (hr.mono (by decide)) rfl T.g_is_name T.F_is_name.kp T.b_is_name .nil pass0 (pa_cons (pv 2) pa_nil)))) (pw_or1 (pt_cmpR op_in_seq (pv 2) (pe_slice sl_tupA (pv 0) po_none (po_some (pv 1))) (by rfl))))))
        (pss_one (ps_ret (pv 1)))
        pss_nil)))
      (pss_one (ps_ret pe_non))), ?_⟩
    refine ⟨_, rfl, t, _, rfl, hT, for_it walk_enumT (fun i σ H' => Same H H' ∧ (∀ j, j < i → badQ row j = false) ∧ ∃ v1 v2, σ = [some (.ref t), v1, v2]) ⟨Same.refl H, fun j hj => absurd hj (Nat.not_lt_zero j), none, none, rfl⟩ (fun i σ H' _ h => h.1.sqt hT) ?_ ?_⟩
    · rintro i x σ H1 H2 hi ⟨s1, hb, v1, v2, rfl⟩ ⟨p, y1, y2, rfl, np, rfl, e1, e2⟩
      cases e1
      have s2 := s1.new' np (o := .tup [.int (i : Nat), y2])
      refine ⟨p, _, rfl, tup_of upd_same, rfl, _, _, rfl, _, _, rfl, rfl, ?_⟩
      have g := getDv e2
      refine ⟨_, rfl, _, _, rfl, rfl, _, rfl, ?_⟩
      by_cases h10 : 10 ≤ i
      · refine ifT (decide_eq_true (by omega)) ?_
        have b : badQ row i = true := by
          unfold badQ
          rw [decide_eq_true h10]
          rfl
        have q := k _ s2
        rw [badV_some hi b hb] at q
        exact ⟨_, rfl, q⟩
      · refine ifF (decide_eq_false (by omega)) ?_
        refine ⟨_, rfl, y2, rfl, (hEl y2 (List.mem_of_getElem? e2)).frm (.of s2), fun H2 s3 => ?_⟩
        cases hn : nmV y2 with
        | false =>
          refine ⟨false, rfl, iteT ?_⟩
          have b : badQ row i = true := by
            unfold badQ
            rw [g, hn, decide_eq_false h10]
            rfl
          have q := k _ (s2.trans s3)
          rw [badV_some hi b hb] at q
          exact ⟨_, rfl, q⟩
        | true =>
          refine ⟨true, rfl, iteF ?_⟩
          refine ⟨_, rfl, _, rfl, _, rfl, _, rfl, slA_of (s3.sqt (s2.sqt hT)) fun q H3 s4 hq => ?_⟩
          rw [cut_upto] at hq
          obtain ⟨ez, _⟩ := nmV_str hn
          generalize strOf y2 = z at ez
          subst ez
          have et := names_take hb
          generalize (row.take i).map strOf = ss at et
          rw [et] at hq
          refine ⟨q, _, rfl, .inr hq, rfl, flat_strs _, ?_⟩
          refine ⟨_, rfl, ?_⟩
          show if inV (.str z) (ss.map V.str) = true then _ else _
          rw [inV_strs]
          by_cases hm : z ∈ ss
          · refine ifT (decide_eq_true hm) ?_
            have b : badQ row i = true := by
              unfold badQ
              rw [g, et, decide_eq_true (mem_strs.mpr hm)]
              simp
            have q := k _ ((s2.trans s3).trans s4)
            rw [badV_some hi b hb] at q
            exact ⟨_, rfl, q⟩
          · refine ifF (decide_eq_false hm) ⟨((s2.trans s3).trans s4), fun j hj => ?_, _, _, rfl⟩
            rcases Nat.lt_succ_iff_lt_or_eq.mp hj with hj | rfl
            · exact hb j hj
            · unfold badQ
              rw [g, et, hn, decide_eq_false h10, decide_eq_false (fun m => hm (mem_strs.mp m))]
              rfl
    · rintro σ H1 ⟨s1, hb, v1, v2, rfl⟩
      have q := k H1 s1
      rw [badV_none hb] at q
      exact q
end
end MH
namespace MH
open PySem PySem.Spec PyProof.Rows L2
/-! ### errors are made, rankings read -/
def spErr (C : Addr) (f : Str) : Sp := fun vs H Q _ => ∃ (a : Addr) (v : V), vs = [.ref a, v] ∧ H a = some (exo a C none) ∧ ∀ dx, H dx = none → dx ≠ a → Q .non (upd (upd H dx (exd dx [(f, v)])) a (exo a C (some dx)))
/-- what making an error leaves -/
theorem made_err {K : PySem.W.Frag} {H : Hp} {C : Addr} {f : Str} {v : V} {σ : L2.St} {W : XK} (h : ∀ dd H', Same H H' → H dd = none → H' dd = some (.xd [(f, v)]) → W (.ref C) (some dd) H') :
    ([v] : List V).length ≤ 1000 ∧ ∀ a, H a = none → spErr C f (.ref a :: ([v] ++ [])) (upd H a (exo a C none))
      (fun x H2 => x = .non ∧ ∃ (d : Addr) (fs : List (Str × V)), H2 a = some (exo a C (some d)) ∧ H2 d = some (exd d fs) ∧ H d = none ∧ W (.ref C) (some d) (upd (del H2 a) d (.xd fs))) (fun _ _ _ => False) := by
  refine ⟨by show 1 ≤ 1000; decide, fun a na => ⟨a, v, rfl, upd_same, fun dx ndx hne => ⟨rfl, dx, [(f, v)], upd_same, ?_, ?_, ?_⟩⟩⟩
  · rw [upd_ne hne, upd_same]
  · rw [upd_ne hne] at ndx
    exact ndx
  · rw [upd_ne hne] at ndx
    refine h dx _ (fun b o e => ?_) ndx upd_same
    have n1 : b ≠ a := ne_of_none e na
    have n2 : b ≠ dx := ne_of_none e ndx
    rw [upd_ne n2, del_ne n1, upd_ne n1, upd_ne n2, upd_ne n1]
    exact e
theorem nrt : ¬ (("_row" : Str) = "_things") := by decide +kernel
def pf (t ts : Addr) : List (Str × V) := putF "_things" (.ref ts) (putF "_row" (.ref t) [])
theorem pf_row (t ts : Addr) : (pf t ts).lookup ("_row" : Str) = some (.ref t) := by
  unfold pf
  rw [lookup_putF, if_neg nrt, lookup_putF, if_pos rfl]
theorem sqt_but {K : PySem.W.Frag} {p a : Addr} {H H' : Hp} {C dx : Addr} {fs : List (Str × V)} {xs : List V} (s : SameB p H H') (hp : H p = some (.ins C dx fs)) (h : SqT K H a xs) : SqT K H' a xs := by
  rcases h with (h | ⟨o, h⟩) | h
  · exact .inl (.inl (s _ _ (ne_of h hp (by intro q; cases q)) h))
  · exact .inl (.inr ⟨o, s _ _ (ne_of h hp (by intro q; cases q)) h⟩)
  · exact .inr h
/-- a ranking with this row stands at x -/
def RkAt (K : PySem.W.Frag) (C : Addr) (H : Hp) (x : Addr) (row : List Str) : Prop := ∃ (dx t ts : Addr) (th : List Str), H x = some (.ins C dx (pf t ts)) ∧ SqT K H t (row.map V.str) ∧ SqT K H ts (th.map V.str) ∧ th.Perm row ∧ sortedS th = true ∧ RowOk row
theorem RkAt.ok {K : PySem.W.Frag} {C x : Addr} {H : Hp} {row : List Str} (r : RkAt K C H x row) : RowOk row := by
  obtain ⟨_, _, _, _, _, _, _, _, _, h⟩ := r
  exact h
def spStr (K : PySem.W.Frag) (C : Addr) : Sp := fun vs H Q _ => ∃ (x : Addr) (row : List Str), vs = [.ref x] ∧ RkAt K C H x row ∧ Q (.str (Txt.join " " row)) H
theorem join_le {row : List Str} (h : RowOk row) : (row.map (·.length)).sum + row.length * (" " : Str).length ≤ 16777216 := by
  have : ∀ l : List Str, (∀ z ∈ l, nameOk z = true) → (l.map (·.length)).sum ≤ l.length * 8 := fun l hl => by
    induction l with
    | nil => exact Nat.le_refl _
    | cons z r ih =>
      have a := nameOk_len (hl z List.mem_cons_self)
      have b := ih fun y hy => hl y (List.mem_cons_of_mem _ hy)
      rw [List.map_cons, List.sum_cons, List.length_cons]
      omega
  have a := this row h.ok
  have b := h.le
  have e : (" " : Str).length = 1 := rfl
  rw [e]
  omega
def ErrIx (E1 : Addr) (H : Hp) (E : XK) (ix : V) : Prop := ∀ dd H', Same H H' → H dd = none → H' dd = some (.xd [("index", ix)]) → E (.ref E1) (some dd) H'
def spCheckRow (K : PySem.W.Frag) (C E1 : Addr) : Sp := fun vs H Q E => ∃ (v : V) (o : Option (List V)), vs = [v] ∧ Av K C H v o ∧
  (∀ row, o = some row → errO o = none → ∀ H', Same H H' → Q .non H') ∧ (∀ ix, errO o = some ix → ErrIx E1 H E ix)
def spInitX (K : PySem.W.Frag) (C E1 : Addr) : Sp := fun vs H Q E => ∃ (x dx : Addr) (v : V) (o : Option (List V)), vs = [.ref x, v] ∧ H x = some (.ins C dx []) ∧ Av K C H v o ∧
  (∀ row, o = some row → errO o = none → ∀ H', SameB x H H' → RkAt K C H' x (row.map strOf) → Q .non H') ∧ (∀ ix, errO o = some ix → ErrIx E1 H E ix)
theorem back_none {H H' : Hp} {p : Addr} (s : Same H H') (n : H' p = none) : H p = none := by
  cases q : H p with
  | none => rfl
  | some o =>
    rw [s _ _ q] at n
    cases n
theorem errO_none {row : List V} (h : errO (some row) = none) : row ≠ [] ∧ badV row = none := by
  have h2 : (if row = [] then some V.non else match badV row with | none => none | some i => some (V.int (i : Nat))) = none := h
  by_cases hn : row = []
  · rw [if_pos hn] at h2
    cases h2
  · rw [if_neg hn] at h2
    cases hb : badV row with
    | none => exact ⟨hn, rfl⟩
    | some i =>
      rw [hb] at h2
      cases h2
section
variable {P : Program} {w : World} {K : PySem.W.Frag} {mg : Str → Option Value} {base : Heap}
theorem ok_InvalidRowD_initD (T : Tx K mg) : FnOk P w K mg base CX0 1 T.a_InvalidRowD_initD T.fd_InvalidRowD_initD ["self", "index"] (spErr T.E_InvalidRow "index") := by
  refine T.F_InvalidRowD_initD.ok sc_InvalidRowD_initD (fun vs H Q E h => ?_) (fun cdv A outer s H vs Q E hr h => ?_)
  · obtain ⟨a, v, rfl, _⟩ := h
    rfl
  · obtain ⟨a, v, rfl, ha, k⟩ := h
    refine ⟨_, (pss_one (ps_ost (pv 0) (pv 1))), ?_⟩
    exact ⟨_, rfl, _, rfl, a, T.E_InvalidRow, rfl, T.ox_InvalidRow, T.no_InvalidRow_index, .inl ⟨ha, fun dx nd hne => k dx nd hne⟩⟩
theorem ok_check_row (T : Tx K mg) : FnOk P w K mg base (L2.CX P w) 3 T.a_check_row T.fd_check_row ["row"] (spCheckRow K T.C T.E_InvalidRow) := by
  refine T.F_check_row.okX sc_check_row (fun vs H Q E h => ?_) (fun cdv A outer s H vs Q E hr h => ?_)
  · obtain ⟨v, o, rfl, _⟩ := h
    rfl
  · obtain ⟨v, o, rfl, av, good, bad⟩ := h
    refine ⟨_, (pss_cons (ps_if (pt_not (pt_val (pe_call (ok_is_filled_tuple T) (hr.mono (by decide)) rfl T.g_is_filled_tuple T.F_is_filled_tuple.kp T.b_is_filled_tuple .nil pass0 (pa_cons (pv 0) pa_nil))))
        (pss_one (ps_raise rfl (takes_of rfl rfl rfl rfl) (pmk_oex T.ox_InvalidRow T.ic_InvalidRow T.ti_InvalidRow (ok_InvalidRowD_initD T) (hr.mono (by decide)) T.b_InvalidRowD_initD .nil pass0 rfl T.g_InvalidRow (pa_cons pe_non pa_nil))))
        pss_nil)
      (pss_cons (ps_set (i := 1) sc_check_row.nd rfl (Or.inl rfl) (pe_call (ok_first_wrong_in_row T) (hr.mono (by decide)) rfl T.g_first_wrong_in_row T.F_first_wrong_in_row.kp T.b_first_wrong_in_row .nil pass0 (pa_cons (pv 0) pa_nil)))
      (pss_one (ps_if (pt_cmpR op_notN (pv 1) pe_non (nomark _))
        (pss_one (ps_raise rfl (takes_of rfl rfl rfl rfl) (pmk_oex T.ox_InvalidRow T.ic_InvalidRow T.ti_InvalidRow (ok_InvalidRowD_initD T) (hr.mono (by decide)) T.b_InvalidRowD_initD .nil pass0 rfl T.g_InvalidRow (pa_cons (pv 1) pa_nil))))
        pss_nil)))), ?_⟩
    have left : filledO o = false → errO o = some .non := fun hf => by
      cases o with
      | none => rfl
      | some row =>
        cases row with
        | nil => rfl
        | cons a r => cases hf
    refine ⟨_, rfl, v, o, rfl, av, ?_⟩
    cases hf : filledO o with
    | false =>
      refine ⟨_, rfl, iteT ?_⟩
      refine made_err (K := K) (σ := []) fun dd H' s3 nd hd => ?_
      exact bad _ (left hf) dd H' s3 nd hd
    | true =>
      refine ⟨_, rfl, iteF ?_⟩
      cases o with
      | none => cases hf
      | some row =>
        obtain ⟨a, rfl, hT, hl, hE⟩ := av
        have hne : row ≠ [] := fun e => by
          rw [e] at hf
          cases hf
        refine ⟨_, rfl, a, row, rfl, hT, hE, fun H1 s1 => ?_⟩
        cases hb : badV row with
        | none =>
          refine ⟨_, rfl, rfl, _, rfl, iteF ?_⟩
          exact good row rfl (by unfold errO; simp [hne, hb]) H1 s1
        | some i =>
          refine ⟨_, rfl, rfl, _, rfl, iteT ?_⟩
          refine ⟨_, rfl, made_err (K := K) (σ := []) fun dd H' s3 nd hd => ?_⟩
          exact bad (.int (i : Nat)) (by unfold errO; simp [hne, hb]) dd H' (s1.trans s3) (back_none s1 nd) hd
theorem okX_RankingD_initD (T : Tx K mg) : FnOk P w K mg base (L2.CX P w) 4 T.a_RankingD_initD T.fd_RankingD_initD ["self", "row"] (spInitX K T.C T.E_InvalidRow) := by
  refine T.F_RankingD_initD.okX sc_RankingD_initD (fun vs H Q E h => ?_) (fun cdv A outer s H vs Q E hr h => ?_)
  · obtain ⟨x, dx, v, o, rfl, _⟩ := h
    rfl
  · obtain ⟨x, dx, v, o, rfl, hx, av, good, bad⟩ := h
    refine ⟨_, (pss_cons (ps_expr (pe_call (ok_check_row T) (hr.mono (by decide)) rfl T.g_check_row T.F_check_row.kp T.b_check_row .nil (passX rfl rfl rfl rfl) (pa_cons (pv 1) pa_nil)))
      (pss_cons (ps_fld (pv 0) (pv 1) rfl)
      (pss_one (ps_fld (pv 0) (pe_callTy call_tupF (by rfl) T.n_tuple (by decide +kernel) (pa_cons (pe_callB cr_sortedU (by rfl) T.n_sorted (by decide +kernel) (pa_cons (pv 1) pa_nil)) pa_nil)) rfl)))), ?_⟩
    refine ⟨_, rfl, v, o, rfl, av, fun row eo he H1 s1 => ?_, fun ix he dd H' s3 nd hd => bad ix he dd H' s3 nd hd⟩
    subst eo
    obtain ⟨t, rfl, hT, _, _⟩ := av
    obtain ⟨hne, hb⟩ := errO_none he
    obtain ⟨er, ro⟩ := rowOk_of hne hb
    have k := good row rfl he
    generalize row.map strOf = ss at er ro k
    subst er
    have hx1 := s1 _ _ hx
    refine ⟨_, rfl, _, rfl, x, T.C, dx, _, rfl, hx1, T.cl, T.no__row, (by show 0 < 1000; decide), ?_⟩
    have b2 : SameB x H (upd H1 x (.ins T.C dx (putF "_row" (.ref t) []))) := (SameB.of s1).put
    have hT2 := sqt_but (K := K) b2 hx hT
    have hz : ss.length < 64 := by
      have := ro.le
      omega
    refine ⟨_, rfl, t, ss, rfl, hT2, hz, fun ys p pm so np => ⟨p, _, rfl, .inl ⟨lst_of upd_same, fun u ou nu od => ?_⟩⟩⟩
    have b3 := (b2.new np (o := .lst (ys.map V.str))).new nu (o := .frz ou (.tup (ys.map V.str)))
    have npx : x ≠ p := fun e => by
      rw [← e, upd_same] at np
      cases np
    have nux : x ≠ u := fun e => by
      rw [← e, upd_ne npx, upd_same] at nu
      cases nu
    refine ⟨_, rfl, x, T.C, dx, _, rfl, (by rw [upd_ne nux, upd_ne npx]; exact upd_same), T.cl, T.no__things, (by show 1 < 1000; decide), ?_⟩
    refine k _ b3.put ⟨dx, t, u, ys, upd_same, sqt_but b3.put hx hT, ?_, pm, so, ro⟩
    refine frz_of (o := ou) ?_
    rw [upd_ne nux.symm]
    exact upd_same
theorem ok_RankingD_strD (T : Tx K mg) : FnOk P w K mg base CX0 1 T.a_RankingD_strD T.fd_RankingD_strD ["self"] (spStr K T.C) := by
  refine T.F_RankingD_strD.ok sc_RankingD_strD (fun vs H Q E h => ?_) (fun cdv A outer s H vs Q E hr h => ?_)
  · obtain ⟨x, row, rfl, _⟩ := h
    rfl
  · obtain ⟨x, row, rfl, ⟨dx, t, ts, th, hx, hT, hS, pm, so, ro⟩, k⟩ := h
    refine ⟨_, (pss_one (ps_ret (pe_join pe_str (pe_fld (pv 0) rfl)))), ?_⟩
    exact ⟨⟨_, rfl⟩, _, rfl, x, T.C, dx, _, _, rfl, hx, T.cl, T.no__row, pf_row t ts, _, _, _, rfl, rfl, .inr hT, join_le ro, k⟩
end
end MH
namespace MH
open PySem PySem.Spec PyProof.Rows L2
def spOfX (K : PySem.W.Frag) (C E1 : Addr) : Sp := fun vs H Q E => ∃ (p : Addr) (row : List V), vs = [.ref C, .ref p] ∧ Av K C H (.ref p) (some row) ∧
  (errO (some row) = none → ∀ x' H', Same H H' → RkAt K C H' x' (row.map strOf) → Q (.ref x') H') ∧ (∀ ix, errO (some row) = some ix → ErrIx E1 H E ix)
/-- what makes a ranking of v tells -/
theorem make_of {K : PySem.W.Frag} {C E1 : Addr} {H : Hp} {v : V} {o : Option (List V)} {Q : VK} {E : XK} (av : Av K C H v o) (good : ∀ row, o = some row → errO o = none → ∀ y H3, Same H H3 → RkAt K C H3 y (row.map strOf) → Q (.ref y) H3)
    (bad : ∀ ix, errO o = some ix → ErrIx E1 H E ix) : ∀ y dy : Addr, H y = none → H dy = none → dy ≠ y → spInitX K C E1 [.ref y, v] (upd (upd H dy (.own y)) y (.ins C dy [])) (fun x H' => x = .non ∧ Q (.ref y) H') E := by
  intro y dy ny ndy hne2
  have s0 : Same H (upd (upd H dy (.own y)) y (.ins C dy [])) := Same.new' (Same.new ndy) (by rw [upd_ne hne2.symm]; exact ny)
  refine ⟨y, dy, v, o, rfl, upd_same, av.frm (.of s0), fun row eo he H3 s3 rk => ⟨rfl, good row eo he y H3 (fun b x e => ?_) rk⟩, fun ix he dd H' s3 nd hd => bad ix he dd H' (s0.trans s3) (back_none s0 nd) hd⟩
  have nb : b ≠ y := ne_of_none e ny
  refine s3 b x nb ?_
  rw [upd_ne nb, upd_ne (ne_of_none e ndy)]
  exact e
section
variable {P : Program} {w : World} {K : PySem.W.Frag} {mg : Str → Option Value} {base : Heap}
theorem okR_Ranking_of (T : Tx K mg) : FnR P w K mg base (L2.CX P w) 6 T.a_Ranking_of (fun vs H Q E => ∃ v rest, vs = v :: rest ∧ rest.length ≤ 11 ∧ ∀ p, H p = none → spOfX K T.C T.E_InvalidRow [v, .ref p] (upd H p (.tup rest)) Q E) := by
  refine fun_starX (k := 5) (sp := spOfX K T.C T.E_InvalidRow) T.F_Ranking_of sc_Ranking_of (by decide) T.bv_Ranking_of fun cdv A outer s H vs Q E hr h => ?_
  obtain ⟨p, row, rfl, av, good, bad⟩ := h
  refine ⟨_, (pss_one (ps_ret (pe_makeV T.mkc (okX_RankingD_initD T) (hr.mono (by decide)) (pv 0) T.b_RankingD_initD (passX rfl rfl rfl rfl) (pa_cons (pv 1) pa_nil)))), ?_⟩
  exact ⟨_, rfl, rfl, _, rfl, make_of av (fun row' eo he y H3 s3 rk => by cases eo; exact good he y H3 s3 rk) bad⟩
end
end MH
namespace MH
open PySem PySem.Spec PyProof.Rows L2
/-- the errors that are raised here: class, word, attribute -/
inductive Kn {K : PySem.W.Frag} {mg : Str → Option Value} (T : Tx K mg) : Addr → Str → Str → Prop
  | row : Kn T T.E_InvalidRow "InvalidRow" "index"
theorem ExAt.same {H H' : Hp} {a C : Addr} {fs : List (Str × V)} (e : ExAt H a C fs) (s : Same H H') : ExAt H' a C fs := by
  obtain ⟨d, h1, h2⟩ := e
  exact ⟨d, s _ _ h1, s _ _ h2⟩
def spSort {K : PySem.W.Frag} {mg : Str → Option Value} (T : Tx K mg) : Sp := fun vs H Q _ => ∃ (a C : Addr) (fs : List (Str × V)) (word f : Str), vs = [.ref a] ∧ ExAt H a C fs ∧ Kn T C word f ∧ ∀ H', Same H H' → Q (.str word) H'
def spAttr {K : PySem.W.Frag} {mg : Str → Option Value} (T : Tx K mg) : Sp := fun vs H Q _ => ∃ (a C : Addr) (fs : List (Str × V)) (word f : Str) (v : V) (txt : Str), vs = [.ref a, .str word] ∧ ExAt H a C fs ∧ Kn T C word f ∧ fs.lookup f = some v ∧ Shw K H v txt ∧ ∀ H', Same H H' → Q (.str txt) H'
section
variable {P : Program} {w : World} {K : PySem.W.Frag} {mg : Str → Option Value} {base : Heap}
theorem k_l_sort (T : Tx K mg) : FnK P w K mg base 4 T.a_l_sort (spSort T) := by
  refine fun_k T.F_l_sort sc_l_sort T.b_l_sort (fun vs H Q E h => ?_) (fun cdv A fr s H vs Q hg hr h => ?_)
  · obtain ⟨a, C, fs, word, f, rfl, _⟩ := h
    rfl
  · obtain ⟨a, C, fs, word, f, rfl, ex, kn, k⟩ := h
    refine ⟨_, (pss_cons (ps_set (i := 1) sc_l_sort.nd rfl (Or.inl rfl) (pe_lst (pa_cons pe_str (pa_cons pe_str (pa_cons pe_str (pa_cons pe_str (pa_cons pe_str (pa_cons pe_str (pa_cons pe_str pa_nil)))))))))
      (pss_cons (ps_set (i := 1) sc_l_sort.nd rfl (Or.inl rfl) (pe_op op_cat (pv 1) (pe_lst (pa_cons pe_str (pa_cons pe_str (pa_cons pe_str (pa_cons pe_str pa_nil)))))))
      (pss_cons (ps_set (i := 2) sc_l_sort.nd rfl (Or.inl rfl) (pe_lst (pa_cons (pe_callB call_isK (by rfl) T.n_isinstance (by decide +kernel) (pa_cons (pv 0) (pa_cons (pe_glob (v := .ref T.E_InvalidText) rfl T.g_InvalidText rfl) pa_nil))) (pa_cons (pe_callB call_isK (by rfl) T.n_isinstance (by decide +kernel) (pa_cons (pv 0) (pa_cons (pe_glob (v := .ref T.E_InvalidIndex) rfl T.g_InvalidIndex rfl) pa_nil))) (pa_cons (pe_callB call_isK (by rfl) T.n_isinstance (by decide +kernel) (pa_cons (pv 0) (pa_cons (pe_glob (v := .ref T.E_NotARanking) rfl T.g_NotARanking rfl) pa_nil))) pa_nil)))))
      (pss_cons (ps_set (i := 2) sc_l_sort.nd rfl (Or.inl rfl) (pe_op op_cat (pv 2) (pe_lst (pa_cons (pe_callB call_isK (by rfl) T.n_isinstance (by decide +kernel) (pa_cons (pv 0) (pa_cons (pe_glob (v := .ref T.E_NotAHouse) rfl T.g_NotAHouse rfl) pa_nil))) (pa_cons (pe_callB call_isK (by rfl) T.n_isinstance (by decide +kernel) (pa_cons (pv 0) (pa_cons (pe_glob (v := .ref T.E_OtherThings) rfl T.g_OtherThings rfl) pa_nil))) (pa_cons (pe_callB call_isK (by rfl) T.n_isinstance (by decide +kernel) (pa_cons (pv 0) (pa_cons (pe_glob (v := .ref T.E_InvalidRow) rfl T.g_InvalidRow rfl) pa_nil))) pa_nil))))))
      (pss_cons (ps_set (i := 2) sc_l_sort.nd rfl (Or.inl rfl) (pe_op op_cat (pv 2) (pe_lst (pa_cons (pe_callB call_isK (by rfl) T.n_isinstance (by decide +kernel) (pa_cons (pv 0) (pa_cons (pe_glob (v := .ref T.E_InvalidMenu) rfl T.g_InvalidMenu rfl) pa_nil))) (pa_cons (pe_callB call_isK (by rfl) T.n_isinstance (by decide +kernel) (pa_cons (pv 0) (pa_cons (pe_glob (v := .ref T.E_InvalidRankings) rfl T.g_InvalidRankings rfl) pa_nil))) (pa_cons (pe_callB call_isK (by rfl) T.n_isinstance (by decide +kernel) (pa_cons (pv 0) (pa_cons (pe_glob (v := .ref T.E_UnknownThing) rfl T.g_UnknownThing rfl) pa_nil))) pa_nil))))))
      (pss_cons (ps_set (i := 2) sc_l_sort.nd rfl (Or.inl rfl) (pe_op op_cat (pv 2) (pe_lst (pa_cons (pe_callB call_isK (by rfl) T.n_isinstance (by decide +kernel) (pa_cons (pv 0) (pa_cons (pe_glob (v := .ref T.E_TooMany) rfl T.g_TooMany rfl) pa_nil))) (pa_cons (pe_callB call_isK (by rfl) T.n_isinstance (by decide +kernel) (pa_cons (pv 0) (pa_cons (pe_glob (v := .ref T.E_NoHouse) rfl T.g_NoHouse rfl) pa_nil))) pa_nil)))))
      (pss_cons (ps_set (i := 3) sc_l_sort.nd rfl (Or.inl rfl) (pe_lst (pa_cons (pe_callB call_isK (by rfl) T.n_isinstance (by decide +kernel) (pa_cons (pv 0) (pa_cons (pe_glob (v := .ref T.E_WrongValue) rfl T.g_WrongValue rfl) pa_nil))) (pa_cons (pe_callB call_isK (by rfl) T.n_isinstance (by decide +kernel) (pa_cons (pv 0) (pa_cons (pe_glob (v := .ref T.E_WrongName) rfl T.g_WrongName rfl) pa_nil))) (pa_cons (pe_callB call_isK (by rfl) T.n_isinstance (by decide +kernel) (pa_cons (pv 0) (pa_cons (pe_glob (v := .ref T.E_NoAnswer) rfl T.g_NoAnswer rfl) pa_nil))) pa_nil)))))
      (pss_cons (ps_if (PW.pt (pw_or (pt_cmpR op_ne (pe_bm PySem.F.plainAttrs_list PySem.F.slot_list_count PySem.F.type_list_count (mt_bcount hr.units) (pv 2) (pa_cons pe_bl pa_nil)) pe_int (nomark _)) (pw_or1 (pt_cmpR op_ne (pe_bm PySem.F.plainAttrs_list PySem.F.slot_list_count PySem.F.type_list_count (mt_bcount hr.units) (pv 3) (pa_cons pe_bl pa_nil)) pe_int (nomark _)))))
        (pss_one (ps_ret pe_str))
        pss_nil)
      (pss_cons (ps_set (i := 4) sc_l_sort.nd rfl (Or.inl rfl) (pe_bm PySem.F.plainAttrs_list PySem.F.slot_list_index PySem.F.type_list_index mt_index (pv 2) (pa_cons pe_bl pa_nil)))
      (pss_one (ps_ret (pe_ifExp (pt_cmpR op_eq (pe_bm PySem.F.plainAttrs_list PySem.F.slot_list_index PySem.F.type_list_index mt_index (pv 3) (pa_cons pe_bl pa_nil)) (pe_ifExp (pt_cmpR op_lt (pv 4) pe_int (nomark _)) pe_int (pe_ifExp (pt_cmpR op_eq (pv 4) pe_int (nomark _)) pe_int pe_int)) (nomark _)) (pe_ix ix_list (pv 1) (pv 4) (fun _ _ => rfl)) pe_str)))))))))))), ?_⟩
    cases kn with
    | row =>
      refine ⟨(by show 7 ≤ sizeLine; decide), fun p0 n0 => ?_⟩
      have s0 := Same.new n0 (o := .lst [V.str "InvalidText", V.str "InvalidIndex", V.str "NotARanking", V.str "NotAHouse", V.str "OtherThings", V.str "InvalidRow", V.str "InvalidMenu"])
      have h0 : (upd H p0 (.lst [V.str "InvalidText", V.str "InvalidIndex", V.str "NotARanking", V.str "NotAHouse", V.str "OtherThings", V.str "InvalidRow", V.str "InvalidMenu"])) p0 = some (.lst [V.str "InvalidText", V.str "InvalidIndex", V.str "NotARanking", V.str "NotAHouse", V.str "OtherThings", V.str "InvalidRow", V.str "InvalidMenu"]) := upd_same
      generalize upd H p0 (.lst [V.str "InvalidText", V.str "InvalidIndex", V.str "NotARanking", V.str "NotAHouse", V.str "OtherThings", V.str "InvalidRow", V.str "InvalidMenu"]) = H0 at s0 h0 ⊢
      refine ⟨_, rfl, (by show 4 ≤ sizeLine; decide), fun q1 nq1 => ?_⟩
      have xq1 : p0 ≠ q1 := ne_of_none h0 nq1
      refine ⟨p0, q1, _, _, rfl, rfl, (by rw [upd_ne xq1]; exact h0), upd_same, (by show 11 ≤ sizeLine; decide), fun r1 nr1 => ?_⟩
      have s1 := (s0.new' nq1).new' nr1 (o := .lst [V.str "InvalidText", V.str "InvalidIndex", V.str "NotARanking", V.str "NotAHouse", V.str "OtherThings", V.str "InvalidRow", V.str "InvalidMenu", V.str "InvalidRankings", V.str "UnknownThing", V.str "TooMany", V.str "NoHouse"])
      have hw : (upd (upd H0 q1 (.lst [V.str "InvalidRankings", V.str "UnknownThing", V.str "TooMany", V.str "NoHouse"])) r1 (.lst [V.str "InvalidText", V.str "InvalidIndex", V.str "NotARanking", V.str "NotAHouse", V.str "OtherThings", V.str "InvalidRow", V.str "InvalidMenu", V.str "InvalidRankings", V.str "UnknownThing", V.str "TooMany", V.str "NoHouse"])) r1 = some (.lst [V.str "InvalidText", V.str "InvalidIndex", V.str "NotARanking", V.str "NotAHouse", V.str "OtherThings", V.str "InvalidRow", V.str "InvalidMenu", V.str "InvalidRankings", V.str "UnknownThing", V.str "TooMany", V.str "NoHouse"]) := upd_same
      change tSeq _ _ _ _ (upd (upd H0 q1 (.lst [V.str "InvalidRankings", V.str "UnknownThing", V.str "TooMany", V.str "NoHouse"])) r1 (.lst [V.str "InvalidText", V.str "InvalidIndex", V.str "NotARanking", V.str "NotAHouse", V.str "OtherThings", V.str "InvalidRow", V.str "InvalidMenu", V.str "InvalidRankings", V.str "UnknownThing", V.str "TooMany", V.str "NoHouse"]))
      generalize upd (upd H0 q1 (.lst [V.str "InvalidRankings", V.str "UnknownThing", V.str "TooMany", V.str "NoHouse"])) r1 (.lst [V.str "InvalidText", V.str "InvalidIndex", V.str "NotARanking", V.str "NotAHouse", V.str "OtherThings", V.str "InvalidRow", V.str "InvalidMenu", V.str "InvalidRankings", V.str "UnknownThing", V.str "TooMany", V.str "NoHouse"]) = H1 at s1 hw ⊢
      have ex1 := ex.same s1
      refine ⟨_, rfl, a, _, fs, _, .ref T.E_InvalidText, false, rfl, ex1, T.ek_InvalidRow, fun _ h => h, T.kf_InvalidRow_InvalidText, _, rfl, a, _, fs, _, .ref T.E_InvalidIndex, false, rfl, ex1, T.ek_InvalidRow, fun _ h => h, T.kf_InvalidRow_InvalidIndex, _, rfl, a, _, fs, _, .ref T.E_NotARanking, false, rfl, ex1, T.ek_InvalidRow, fun _ h => h, T.kf_InvalidRow_NotARanking, (by show 3 ≤ sizeLine; decide), fun p2 n2 => ?_⟩
      have s2 := s1.new' n2 (o := .lst [V.bl false, V.bl false, V.bl false])
      have hw2 : (upd H1 p2 (.lst [V.bl false, V.bl false, V.bl false])) r1 = some (.lst [V.str "InvalidText", V.str "InvalidIndex", V.str "NotARanking", V.str "NotAHouse", V.str "OtherThings", V.str "InvalidRow", V.str "InvalidMenu", V.str "InvalidRankings", V.str "UnknownThing", V.str "TooMany", V.str "NoHouse"]) := by
        rw [upd_ne (ne_of_none hw n2)]
        exact hw
      have h2 : (upd H1 p2 (.lst [V.bl false, V.bl false, V.bl false])) p2 = some (.lst [V.bl false, V.bl false, V.bl false]) := upd_same
      change tSeq _ _ _ _ (upd H1 p2 (.lst [V.bl false, V.bl false, V.bl false]))
      generalize upd H1 p2 (.lst [V.bl false, V.bl false, V.bl false]) = H2 at s2 hw2 h2 ⊢
      have ex3 := ex.same s2
      refine ⟨_, rfl, _, rfl, a, _, fs, _, .ref T.E_NotAHouse, false, rfl, ex3, T.ek_InvalidRow, fun _ h => h, T.kf_InvalidRow_NotAHouse, _, rfl, a, _, fs, _, .ref T.E_OtherThings, false, rfl, ex3, T.ek_InvalidRow, fun _ h => h, T.kf_InvalidRow_OtherThings, _, rfl, a, _, fs, _, .ref T.E_InvalidRow, true, rfl, ex3, T.ek_InvalidRow, fun _ h => h, T.kf_InvalidRow_InvalidRow, (by show 3 ≤ sizeLine; decide), fun q3 nq3 => ?_⟩
      have xq3 : p2 ≠ q3 := ne_of_none h2 nq3
      refine ⟨p2, q3, _, _, rfl, rfl, (by rw [upd_ne xq3]; exact h2), upd_same, (by show 6 ≤ sizeLine; decide), fun r3 nr3 => ?_⟩
      have s3 := (s2.new' nq3).new' nr3 (o := .lst [V.bl false, V.bl false, V.bl false, V.bl false, V.bl false, V.bl true])
      have h3 : (upd (upd H2 q3 (.lst [V.bl false, V.bl false, V.bl true])) r3 (.lst [V.bl false, V.bl false, V.bl false, V.bl false, V.bl false, V.bl true])) r3 = some (.lst [V.bl false, V.bl false, V.bl false, V.bl false, V.bl false, V.bl true]) := upd_same
      have hw3 : (upd (upd H2 q3 (.lst [V.bl false, V.bl false, V.bl true])) r3 (.lst [V.bl false, V.bl false, V.bl false, V.bl false, V.bl false, V.bl true])) r1 = some (.lst [V.str "InvalidText", V.str "InvalidIndex", V.str "NotARanking", V.str "NotAHouse", V.str "OtherThings", V.str "InvalidRow", V.str "InvalidMenu", V.str "InvalidRankings", V.str "UnknownThing", V.str "TooMany", V.str "NoHouse"]) := by
        have e1 : (upd H2 q3 (.lst [V.bl false, V.bl false, V.bl true])) r1 = some (.lst [V.str "InvalidText", V.str "InvalidIndex", V.str "NotARanking", V.str "NotAHouse", V.str "OtherThings", V.str "InvalidRow", V.str "InvalidMenu", V.str "InvalidRankings", V.str "UnknownThing", V.str "TooMany", V.str "NoHouse"]) := by
          rw [upd_ne (ne_of_none hw2 nq3)]
          exact hw2
        rw [upd_ne (ne_of_none e1 nr3)]
        exact e1
      change tSeq _ _ _ _ (upd (upd H2 q3 (.lst [V.bl false, V.bl false, V.bl true])) r3 (.lst [V.bl false, V.bl false, V.bl false, V.bl false, V.bl false, V.bl true]))
      generalize upd (upd H2 q3 (.lst [V.bl false, V.bl false, V.bl true])) r3 (.lst [V.bl false, V.bl false, V.bl false, V.bl false, V.bl false, V.bl true]) = H3 at s3 hw3 h3 ⊢
      have ex4 := ex.same s3
      refine ⟨_, rfl, _, rfl, a, _, fs, _, .ref T.E_InvalidMenu, false, rfl, ex4, T.ek_InvalidRow, fun _ h => h, T.kf_InvalidRow_InvalidMenu, _, rfl, a, _, fs, _, .ref T.E_InvalidRankings, false, rfl, ex4, T.ek_InvalidRow, fun _ h => h, T.kf_InvalidRow_InvalidRankings, _, rfl, a, _, fs, _, .ref T.E_UnknownThing, false, rfl, ex4, T.ek_InvalidRow, fun _ h => h, T.kf_InvalidRow_UnknownThing, (by show 3 ≤ sizeLine; decide), fun q4 nq4 => ?_⟩
      have xq4 : r3 ≠ q4 := ne_of_none h3 nq4
      refine ⟨r3, q4, _, _, rfl, rfl, (by rw [upd_ne xq4]; exact h3), upd_same, (by show 9 ≤ sizeLine; decide), fun r4 nr4 => ?_⟩
      have s4 := (s3.new' nq4).new' nr4 (o := .lst [V.bl false, V.bl false, V.bl false, V.bl false, V.bl false, V.bl true, V.bl false, V.bl false, V.bl false])
      have h4 : (upd (upd H3 q4 (.lst [V.bl false, V.bl false, V.bl false])) r4 (.lst [V.bl false, V.bl false, V.bl false, V.bl false, V.bl false, V.bl true, V.bl false, V.bl false, V.bl false])) r4 = some (.lst [V.bl false, V.bl false, V.bl false, V.bl false, V.bl false, V.bl true, V.bl false, V.bl false, V.bl false]) := upd_same
      have hw4 : (upd (upd H3 q4 (.lst [V.bl false, V.bl false, V.bl false])) r4 (.lst [V.bl false, V.bl false, V.bl false, V.bl false, V.bl false, V.bl true, V.bl false, V.bl false, V.bl false])) r1 = some (.lst [V.str "InvalidText", V.str "InvalidIndex", V.str "NotARanking", V.str "NotAHouse", V.str "OtherThings", V.str "InvalidRow", V.str "InvalidMenu", V.str "InvalidRankings", V.str "UnknownThing", V.str "TooMany", V.str "NoHouse"]) := by
        have e1 : (upd H3 q4 (.lst [V.bl false, V.bl false, V.bl false])) r1 = some (.lst [V.str "InvalidText", V.str "InvalidIndex", V.str "NotARanking", V.str "NotAHouse", V.str "OtherThings", V.str "InvalidRow", V.str "InvalidMenu", V.str "InvalidRankings", V.str "UnknownThing", V.str "TooMany", V.str "NoHouse"]) := by
          rw [upd_ne (ne_of_none hw3 nq4)]
          exact hw3
        rw [upd_ne (ne_of_none e1 nr4)]
        exact e1
      change tSeq _ _ _ _ (upd (upd H3 q4 (.lst [V.bl false, V.bl false, V.bl false])) r4 (.lst [V.bl false, V.bl false, V.bl false, V.bl false, V.bl false, V.bl true, V.bl false, V.bl false, V.bl false]))
      generalize upd (upd H3 q4 (.lst [V.bl false, V.bl false, V.bl false])) r4 (.lst [V.bl false, V.bl false, V.bl false, V.bl false, V.bl false, V.bl true, V.bl false, V.bl false, V.bl false]) = H4 at s4 hw4 h4 ⊢
      have ex5 := ex.same s4
      refine ⟨_, rfl, _, rfl, a, _, fs, _, .ref T.E_TooMany, false, rfl, ex5, T.ek_InvalidRow, fun _ h => h, T.kf_InvalidRow_TooMany, _, rfl, a, _, fs, _, .ref T.E_NoHouse, false, rfl, ex5, T.ek_InvalidRow, fun _ h => h, T.kf_InvalidRow_NoHouse, (by show 2 ≤ sizeLine; decide), fun q5 nq5 => ?_⟩
      have xq5 : r4 ≠ q5 := ne_of_none h4 nq5
      refine ⟨r4, q5, _, _, rfl, rfl, (by rw [upd_ne xq5]; exact h4), upd_same, (by show 11 ≤ sizeLine; decide), fun r5 nr5 => ?_⟩
      have s5 := (s4.new' nq5).new' nr5 (o := .lst [V.bl false, V.bl false, V.bl false, V.bl false, V.bl false, V.bl true, V.bl false, V.bl false, V.bl false, V.bl false, V.bl false])
      have h5 : (upd (upd H4 q5 (.lst [V.bl false, V.bl false])) r5 (.lst [V.bl false, V.bl false, V.bl false, V.bl false, V.bl false, V.bl true, V.bl false, V.bl false, V.bl false, V.bl false, V.bl false])) r5 = some (.lst [V.bl false, V.bl false, V.bl false, V.bl false, V.bl false, V.bl true, V.bl false, V.bl false, V.bl false, V.bl false, V.bl false]) := upd_same
      have hw5 : (upd (upd H4 q5 (.lst [V.bl false, V.bl false])) r5 (.lst [V.bl false, V.bl false, V.bl false, V.bl false, V.bl false, V.bl true, V.bl false, V.bl false, V.bl false, V.bl false, V.bl false])) r1 = some (.lst [V.str "InvalidText", V.str "InvalidIndex", V.str "NotARanking", V.str "NotAHouse", V.str "OtherThings", V.str "InvalidRow", V.str "InvalidMenu", V.str "InvalidRankings", V.str "UnknownThing", V.str "TooMany", V.str "NoHouse"]) := by
        have e1 : (upd H4 q5 (.lst [V.bl false, V.bl false])) r1 = some (.lst [V.str "InvalidText", V.str "InvalidIndex", V.str "NotARanking", V.str "NotAHouse", V.str "OtherThings", V.str "InvalidRow", V.str "InvalidMenu", V.str "InvalidRankings", V.str "UnknownThing", V.str "TooMany", V.str "NoHouse"]) := by
          rw [upd_ne (ne_of_none hw4 nq5)]
          exact hw4
        rw [upd_ne (ne_of_none e1 nr5)]
        exact e1
      change tSeq _ _ _ _ (upd (upd H4 q5 (.lst [V.bl false, V.bl false])) r5 (.lst [V.bl false, V.bl false, V.bl false, V.bl false, V.bl false, V.bl true, V.bl false, V.bl false, V.bl false, V.bl false, V.bl false]))
      generalize upd (upd H4 q5 (.lst [V.bl false, V.bl false])) r5 (.lst [V.bl false, V.bl false, V.bl false, V.bl false, V.bl false, V.bl true, V.bl false, V.bl false, V.bl false, V.bl false, V.bl false]) = H5 at s5 hw5 h5 ⊢
      have ex6 := ex.same s5
      refine ⟨_, rfl, a, _, fs, _, .ref T.E_WrongValue, true, rfl, ex6, T.ek_InvalidRow, fun _ h => h, T.kf_InvalidRow_WrongValue, _, rfl, a, _, fs, _, .ref T.E_WrongName, false, rfl, ex6, T.ek_InvalidRow, fun _ h => h, T.kf_InvalidRow_WrongName, _, rfl, a, _, fs, _, .ref T.E_NoAnswer, false, rfl, ex6, T.ek_InvalidRow, fun _ h => h, T.kf_InvalidRow_NoAnswer, (by show 3 ≤ sizeLine; decide), fun p6 n6 => ?_⟩
      have s6 := s5.new' n6 (o := .lst [V.bl true, V.bl false, V.bl false])
      have h6 : (upd H5 p6 (.lst [V.bl true, V.bl false, V.bl false])) p6 = some (.lst [V.bl true, V.bl false, V.bl false]) := upd_same
      have hw6 : (upd H5 p6 (.lst [V.bl true, V.bl false, V.bl false])) r1 = some (.lst [V.str "InvalidText", V.str "InvalidIndex", V.str "NotARanking", V.str "NotAHouse", V.str "OtherThings", V.str "InvalidRow", V.str "InvalidMenu", V.str "InvalidRankings", V.str "UnknownThing", V.str "TooMany", V.str "NoHouse"]) := by
        rw [upd_ne (ne_of_none hw5 n6)]
        exact hw5
      have hf6 : (upd H5 p6 (.lst [V.bl true, V.bl false, V.bl false])) r5 = some (.lst [V.bl false, V.bl false, V.bl false, V.bl false, V.bl false, V.bl true, V.bl false, V.bl false, V.bl false, V.bl false, V.bl false]) := by
        rw [upd_ne (ne_of_none h5 n6)]
        exact h5
      change tSeq _ _ _ _ (upd H5 p6 (.lst [V.bl true, V.bl false, V.bl false]))
      generalize upd H5 p6 (.lst [V.bl true, V.bl false, V.bl false]) = H6 at s6 hw6 h6 hf6 ⊢
      refine ⟨_, rfl, .inl ⟨rfl, _, lst_of hf6⟩, r5, [false, false, false, false, false, true, false, false, false, false, false], true, rfl, rfl, lst_of hf6, (by decide), rfl, _, rfl, ifF (by decide) ?_⟩
      refine ⟨_, rfl, .inl ⟨rfl, _, lst_of h6⟩, p6, [true, false, false], true, rfl, rfl, lst_of h6, (by decide), rfl, _, rfl, ifF (by decide) ?_⟩
      refine ⟨_, rfl, .inl ⟨rfl, _, lst_of hf6⟩, r5, _, .bl true, 5, .bl true, rfl, rfl, lst_of hf6, rfl, rfl, rfl, rfl, (fun m z hm hz => ?_), ?_⟩
      · match m, hm, hz with
        | 0, _, hz => cases hz; rfl
        | 1, _, hz => cases hz; rfl
        | 2, _, hz => cases hz; rfl
        | 3, _, hz => cases hz; rfl
        | 4, _, hz => cases hz; rfl
        | m + 5, hm, _ => omega
      refine ⟨_, rfl, .inl ⟨rfl, _, lst_of h6⟩, p6, _, .bl true, 0, .bl true, rfl, rfl, lst_of h6, rfl, rfl, rfl, rfl, (fun m z hm hz => ?_), ?_⟩
      · omega
      refine ⟨_, rfl, 5, 8, rfl, rfl, _, rfl, ifT (by decide) ?_⟩
      refine ⟨rfl, _, rfl, ifT (by decide) ?_⟩
      exact ⟨_, rfl, _, rfl, r1, _, _, _, rfl, rfl, lst_of hw6, atI_nat (j := 5) rfl, k _ s6⟩
theorem k_l_attribute (T : Tx K mg) : FnK P w K mg base 4 T.a_l_attribute (spAttr T) := by
  refine fun_k T.F_l_attribute sc_l_attribute T.b_l_attribute (fun vs H Q E h => ?_) (fun cdv A fr s H vs Q hg hr h => ?_)
  · obtain ⟨a, C, fs, word, f, v, txt, rfl, _⟩ := h
    rfl
  · obtain ⟨a, C, fs, word, f, v, txt, rfl, ex, kn, hv, hs, k⟩ := h
    refine ⟨_, (pss_cons (ps_if (pt_cmpR op_in_seq (pv 1) (pe_lst (pa_cons pe_str (pa_cons pe_str (pa_cons pe_str pa_nil)))) (by rfl))
        (pss_one (ps_ret (pe_callB (call_reprV hg hr.units) (by rfl) T.n_repr (by decide +kernel) (pa_cons (pe_xk (pv 0)) pa_nil))))
        pss_nil)
      (pss_cons (ps_if (pt_cmpR op_eq (pv 1) pe_str (nomark _))
        (pss_one (ps_ret (pe_callB (call_reprV hg hr.units) (by rfl) T.n_repr (by decide +kernel) (pa_cons (pe_xk (pv 0)) pa_nil))))
        pss_nil)
      (pss_cons (ps_if (pt_cmpR op_eq (pv 1) pe_str (nomark _))
        (pss_one (ps_ret (pe_callB (call_reprV hg hr.units) (by rfl) T.n_repr (by decide +kernel) (pa_cons (pe_xk (pv 0)) pa_nil))))
        pss_nil)
      (pss_one (ps_ret (pe_ifExp (pt_cmpR op_eq (pv 1) pe_str (nomark _)) pe_str (pe_callB (call_reprV hg hr.units) (by rfl) T.n_repr (by decide +kernel) (pa_cons (pe_xk (pv 0)) pa_nil)))))))), ?_⟩
    cases kn with
    | row =>
      refine ⟨_, rfl, (by show 3 ≤ sizeLine; decide), fun p1 n1 => ⟨p1, _, rfl, .inl (lst_of upd_same), rfl, rfl, _, rfl, ifT (by decide +kernel) ?_⟩⟩
      have s1 := Same.new n1 (o := .lst [.str "InvalidRow", .str "InvalidMenu", .str "InvalidRankings"])
      exact ⟨_, rfl, a, T.E_InvalidRow, fs, v, rfl, ex.same s1, T.ek_InvalidRow, T.no_InvalidRow_index, hv, v, txt, rfl, extN_shw (extN_of s1) hs, k _ s1⟩
end
end MH
namespace MH
open PySem PySem.Spec PyProof.Rows L2
/-- what an error that is let out is to be -/
def ErrOut {K : PySem.W.Frag} {mg : Str → Option Value} (T : Tx K mg) (Q : VK) : XK := fun cls d H' => ∃ (C : Addr) (word f : Str) (dd : Addr) (fs : List (Str × V)) (v : V) (txt : Str), Kn T C word f ∧ cls = .ref C ∧ d = some dd ∧ H' dd = some (.xd fs) ∧ fs.lookup f = some v ∧ Shw K H' v txt ∧
  ∀ p H2, Same H' H2 → H' p = none → H2 p = some (.tup [.str word, .str txt]) → Q (.ref p) H2
def RetOut (Q : VK) : VK := fun v H' => ∃ v', (some (some v) : Option (Option V)) = some (some v') ∧ (2 ≤ sizeLine ∧ ∀ p, H' p = none → Q (.ref p) (upd H' p (.tup [.str "returned", v'])))
theorem ret_out {Q : VK} {v : V} {H' : Hp} (h : ∀ p, H' p = none → Q (.ref p) (upd H' p (.tup [.str "returned", v]))) : RetOut Q v H' := ⟨v, rfl, by decide, h⟩
def TTold {K : PySem.W.Frag} {mg : Str → Option Value} (T : Tx K mg) : (XK → Hp → VK → Prop) → Hp → VK → Prop := fun tl H Q => tl (ErrOut T Q) H (RetOut Q)
theorem told_ok {X : Cx} (T : Tx X.K X.mg) {q : Str} {cdg : Value} (hg : X.A.guards = some []) (hr : Room (8 + 1) X.A) :
    LamX.GivesTo X names_l_told "_law_told" (defScope st_l_told) T.a_l_told cdg (defBody st_l_told) "_law_act" q (TTold T) := by
  intro f c' s H Q tl act hc h
  have hr1 : L2H.RoomH 8 (X.A.deeper (envOfC "_law_told" (defScope st_l_told) s.heap.objs.size T.a_l_told cdg)) := L2H.roomH_of (hr.deeper _)
  refine ⟨_, pss_cons (ps_try_asK (X := (cxOf C8.CX0 X.prog X.w X.K X.mg X.base names_l_told "_law_told" (defScope st_l_told) T.a_l_told cdg X.A X.stack s H C8.E0).nox) (c1 := .ref T.E_WrongValue) (c2 := .ref T.E_WrongName) (c3 := .ref T.E_NoAnswer) (i := 2)
      (tb := fun W D σ H => ∃ Ech : XK, (∀ cls d σ' H', Ech cls d H' → W cls d σ' H') ∧ σ[0]? = some (some (.ref f)) ∧ H c' = some (LamX.CodeO c' q) ∧ tl Ech H (fun v H' => gName 1 v σ H' D.nx))
      rfl rfl rfl sc_l_told.nd rfl rfl ⟨rfl, by decide, .inl T.g_WrongValue⟩ ⟨rfl, by decide, .inl T.g_WrongName⟩ ⟨rfl, by decide, .inl T.g_NoAnswer⟩ LamX.takes0 (fun W pn xe tk _ => ?_)
      (fun a pn => pss_cons (ps_set (i := 3) sc_l_told.nd rfl (Or.inl rfl) (pe_callk (k_l_sort T) hg (L2H.RoomH.mono (j := 4) (k := 8) ⟨hr1.dp, hr1.un⟩ (by decide)) rfl T.g_l_sort T.F_l_sort.kp (pa_cons (pv 2) pa_nil)))
        (pss_one (ps_ret (pe_tup (pa_cons (pv 3) (pa_cons (pe_callk (k_l_attribute T) hg (L2H.RoomH.mono (j := 4) (k := 8) ⟨hr1.dp, hr1.un⟩ (by decide)) rfl T.g_l_attribute T.F_l_attribute.kp (pa_cons (pv 2) (pa_cons (pv 3) pa_nil))) pa_nil)))))))
      (pss_one (ps_ret (pe_tup (pa_cons pe_str (pa_cons (pv 1) pa_nil))))), ?_⟩
  · refine ⟨fun pins s' σ H' D I h' => ?_⟩
    obtain ⟨Ech, hW, h1, h2, h3⟩ := h'
    exact PSs.run (X := (cxOf C8.CX0 X.prog X.w X.K X.mg X.base names_l_told "_law_told" (defScope st_l_told) T.a_l_told cdg X.A X.stack s H C8.E0).tr pn xe) (pss_one (ps_set (i := 1) sc_l_told.nd rfl (Or.inl rfl) (act W pn xe Ech _ _ tk hW))) pins s' σ H' D I ⟨h1, h2, h3⟩
  · refine ⟨ErrOut T Q, fun cls d σ' H' e => ?_, rfl, hc, h⟩
    obtain ⟨C, word, fl, dd, fs, v, txt, kn, rfl, rfl, hd, hv, hs, k⟩ := e
    refine ⟨true, ?_, fun _ => ⟨C, dd, rfl, rfl, fun a hl na => ?_⟩, nofun⟩
    · cases kn
      exact T.em_InvalidRow
    · have hl4 : σ'.length = 4 := hl
      have g2 : (σ'.set 2 (some (.ref a)))[2]? = some (some (.ref a)) := List.getElem?_set_self (by omega)
      have s0 : Same H' (upd H' a (exk a C dd)) := Same.new na
      have ex : ExAt (upd H' a (exk a C dd)) a C fs := ⟨dd, upd_same, s0 _ _ hd⟩
      have hs0 := extN_shw (extN_of s0) hs
      generalize upd H' a (exk a C dd) = H1 at s0 ex hs0 ⊢
      refine ⟨_, g2, a, C, fs, word, fl, rfl, ex, kn, fun H2 s2 => ?_⟩
      have g3 : ((σ'.set 2 (some (.ref a))).set 3 (some (.str word)))[3]? = some (some (.str word)) := List.getElem?_set_self (by rw [List.length_set]; omega)
      have g4 : ((σ'.set 2 (some (.ref a))).set 3 (some (.str word)))[2]? = some (some (.ref a)) := by
        rw [List.getElem?_set_ne (by decide)]
        exact g2
      refine ⟨_, g3, _, g4, _, g3, a, C, fs, word, fl, v, txt, rfl, ex.same s2, kn, hv, extN_shw (extN_of s2) hs0, fun H3 s3 => ⟨(by show 2 ≤ sizeLine; decide), fun p np => ?_⟩⟩
      have s4 := (s0.trans s2).trans s3
      have np0 : H' p = none := by
        cases z : H' p with
        | none => rfl
        | some o =>
          rw [s4 _ _ z] at np
          cases np
      exact k p _ (s4.new' np) np0 upd_same

/-- the tables of code of the defs that make lambdas -/
def TBs {K : PySem.W.Frag} {mg : Str → Option Value} (T : Tx K mg) (base : Heap) : Prop := LamX.TabB base mg T.c_l_made T.P_l_made ∧ LamX.TabB base mg T.c_l_right T.P_l_right
abbrev tabsOf {K : PySem.W.Frag} {mg : Str → Option Value} (T : Tx K mg) (q1 q2 : Str) : List (Addr × Str) := [(T.P_l_made, (q1 ++ ".<locals>.") ++ "<lambda>"), (T.P_l_right, (q2 ++ ".<locals>.") ++ "<lambda>")]
/-- told(lambda: ..) -/
theorem pe_told {X : Cx} {c P : Addr} {q : Str} {TL : List (Addr × Str)} {params : Arguments} {body : Expr} {scope : Scope} {t : XK → TE} {p lpos pos : Pos} (T : Tx X.K X.mg) (TB : LamX.TabB X.base X.mg c P) (hm : (P, q) ∈ TL) (hu : ∀ p ∈ TL, p.1 = P → p.2 = q) (hcode : X.env.code = .ref c) (hg : X.A.guards = some []) (hr : Room 9 X.A) (gl : Gl X "_law_told")
    (hq : X.env.qual ++ "<lambda>" = q) (L : LamX.LamS X.env.scope scope) (hdef : defaultsOf params X.env = ([], []))
    (hbind : ∀ (q : Str) (cl : List (Str × Addr)) (pm cv ctv : Value), bindArgs (PySem.W.kla_fn "<lambda>" q params body scope cl pm cv ctv) ⟨[], []⟩ = pure [])
    (hbody : ∀ (A : Around) (outer : List Env) (s : Shared) (H : Hp) (E : XK) (f c' : Addr), Room 7 (A.deeper (LamX.lamEnv X scope s.heap.objs.size f c')) → PE (LamX.lamCx X A outer s H E scope f c') body (t E)) :
    PE X (.Call (.Name "_law_told" p) [.Lambda params body scope lpos] [] pos) (LamX.tLam TL (TTold T) t) := by
  subst hq
  obtain ⟨oc, od, kV, doc, pm, an, cdv, ct, osl, lk, hcg, hb⟩ := T.F_l_told.shape T.b_l_told
  exact LamX.pe_lamcall (k := 7) gl T.g_l_told T.F_l_told.kp lk hcg hb sc_l_told rfl (Or.inl rfl) (told_ok T hg hr) TB hcode hm hu hr L hdef hbind hbody
end MH
namespace MH
open PySem PySem.Spec PyProof.Rows L2
theorem sg_one {c : Nat} (h : c < 0x110000) : SgOk ⟨#[c]⟩ := fun x hx => by
  have : x = c := by simpa using hx
  rw [this]
  exact h
theorem both_in (c : Nat) : decide (c ∈ (letters ++ digits).cps.toList) = (isL c || isD c) := by
  have e : (letters ++ digits).cps.toList = letters.cps.toList ++ digits.cps.toList := by
    show (letters.cps ++ digits.cps).toList = _
    rw [Array.toList_append]
  rw [e]
  unfold isL isD
  by_cases h1 : c ∈ letters.cps.toList
  · simp [h1]
  · by_cases h2 : c ∈ digits.cps.toList
    · simp [h1, h2]
    · simp [h1, h2]
def spLName (K : PySem.W.Frag) : Sp := fun vs H Q _ => ∃ v : V, vs = [v] ∧ El K H v ∧ ∀ H', Same H H' → Q (.bl (nmV v)) H'
section
variable {P : Program} {w : World} {K : PySem.W.Frag} {mg : Str → Option Value} {base : Heap}
theorem ok_l_is_name (T : Tx K mg) : FnOk P w K mg base CX0 4 T.a_l_is_name T.fd_l_is_name ["_law_name"] (spLName K) := by
  refine T.F_l_is_name.ok sc_l_is_name (fun vs H Q E h => ?_) (fun cdv A outer s H vs Q E hr h => ?_)
  · obtain ⟨z, rfl, _⟩ := h
    rfl
  · obtain ⟨v, rfl, el, k⟩ := h
    refine ⟨_, (pss_cons (ps_set (i := 1) sc_l_is_name.nd rfl (Or.inr rfl) pe_str)
      (pss_cons (ps_if (PW.pt (pw_or (pt_not (pt_val (pe_callB call_isi (by rfl) T.n_isinstance (by decide +kernel) (pa_cons (pv 0) (pa_cons (pe_bltn (v := .ty "str") (by rfl) T.n_str (by decide +kernel) rfl) pa_nil))))) (pw_or (pt_not (pt_chain op_lt op_lt pe_int (pe_callB call_len_str (by rfl) T.n_len (by decide +kernel) (pa_cons (pv 0) pa_nil)) pe_int)) (pw_or1 (pt_cmpR op_notIn_sign (pe_ix ix_str (pv 0) pe_int (fun _ _ => rfl)) (pv 1) (by rfl))))))
        (pss_one (ps_ret pe_bl))
        pss_nil)
      (pss_one (ps_ret (pe_cmpR (op_eqD hr.units) (pe_lc (own := [("_law_sign", 2)]) (g := gName 2) (tt := _) rfl sc_l_is_name.nd (pi_str (pv 0)) (blkOk_by (own := [("_law_sign", 2)]) (N := names_l_is_name) (sc := defScope st_l_is_name) (by decide +kernel)) (fun _ _ _ _ _ => pg_name (i := 2) sc_l_is_name.nd rfl (Or.inl rfl)) (fun _ _ _ _ _ => pts_one (pt_cmpR op_notIn_sign (pv 2) (pe_op op_add_str (pv 1) pe_str) (by rfl))) (fun _ _ _ _ _ => (pv 2))) (pe_lst pa_nil) (nomark _)))))), ?_⟩
    rcases el.kind with ⟨z, rfl, gz, hz1⟩ | ⟨nz, t, ty, kt⟩
    rotate_left
    · have z0 := k H (Same.refl H)
      rw [nmV_no nz] at z0
      exact ⟨_, rfl, _, _, _, _, false, rfl, .ty _, ty, kit_ty kt, false, rfl, iteT z0⟩
    have hz : z.length ≤ 100000 := by omega
    have k : ∀ H', Same H H' → Q (.bl (nameOk z)) H' := k
    refine ⟨_, rfl, _, _, _, _, true, rfl, .ty _, .base (.str z), kit_ty (by decide +kernel), true, rfl, iteF ?_⟩
    refine ⟨_, rfl, z, rfl, le_line hz, _, _, rfl, rfl, _, rfl, ?_⟩
    have lt0 : z.cps.toList.length = z.length := rfl
    by_cases h1 : 1 ≤ z.length
    · refine ifT (decide_eq_true (show (0 : Int) < (z.length : Nat) by omega)) ?_
      refine ⟨_, _, rfl, rfl, _, rfl, ?_⟩
      by_cases h2 : z.length ≤ 8
      · refine ifF (by simp; omega) ?_
        have hne : z.cps.toList ≠ [] := fun e => by
          rw [e] at lt0
          rw [← lt0] at h1
          cases h1
        obtain ⟨c0, rest, ec⟩ : ∃ c r, z.cps.toList = c :: r := List.exists_cons_of_ne_nil hne
        have en : nameOk z = (isL c0 && z.cps.toList.all fun c => isL c || isD c) := by
          unfold nameOk
          rw [decide_eq_true h1, decide_eq_true h2, ec]
          rfl
        refine ⟨_, rfl, z, 0, c0, rfl, rfl, le_line hz, (by rw [ec]; exact atI_nat (j := 0) rfl), ?_⟩
        refine ⟨_, rfl, c0, letters, rfl, rfl, !(isL c0), rfl, ?_⟩
        cases hc : isL c0 with
        | false =>
          refine iteT ?_
          have z0 := k H (Same.refl H)
          rw [en, hc] at z0
          exact z0
        | true =>
          refine iteF ?_
          refine ⟨_, rfl, z, rfl, fun D nD => lc_it (w := walk_str) (fun i H' => Same H H' ∧ H' D = some (.lst (((z.cps.toList.take i).filter fun c => !(isL c || isD c)).map fun c => V.str ⟨#[c]⟩))) ⟨Same.new nD, upd_same⟩ (fun _ _ _ _ => trivial) ?_ ?_⟩
          · rintro i x H1 H2 hi ⟨s1, e1⟩ ⟨rfl, c, hc, rfl⟩
            refine ⟨rfl, _, rfl, _, rfl, _, _, rfl, rfl, (by decide +kernel), c, letters ++ digits, rfl, rfl, _, rfl, ?_⟩
            rw [both_in c]
            have g : z.cps.toList[i]? = some c := by
              rw [Array.getElem?_toList]
              exact hc
            have tk : ((z.cps.toList.take (i + 1)).filter fun c => !(isL c || isD c)) = ((z.cps.toList.take i).filter fun c => !(isL c || isD c)) ++ (if (!(isL c || isD c)) = true then [c] else []) := by
              rw [List.take_add_one, g, List.filter_append]
              congr 1
              show List.filter _ [c] = _
              rw [List.filter_cons, List.filter_nil]
            cases hb : (isL c || isD c) with
            | true =>
              refine iteF ⟨s1, ?_⟩
              rw [tk, hb, e1]
              simp
            | false =>
              refine iteT ⟨_, rfl, _, e1, lt_line ?_, ?_, ?_⟩
              · have q1 := List.length_filter_le (fun c => !(isL c || isD c)) (z.cps.toList.take i)
                rw [List.length_take] at q1
                rw [List.length_map]
                omega
              · intro q o e
                rw [upd_ne (ne_of_none e nD)]
                exact s1 _ _ e
              · rw [upd_same, tk, hb, List.map_append]
                rfl
          · rintro H1 ⟨s1, e1⟩
            have ef : z.cps.toList.take z.cps.size = z.cps.toList := List.take_of_length_le (Nat.le_refl _)
            rw [ef] at e1
            have em : ((z.cps.toList.filter fun c => !(isL c || isD c)).map fun c => V.str ⟨#[c]⟩) = (((z.cps.toList.filter fun c => !(isL c || isD c)).map fun c => (⟨#[c]⟩ : Str))).map V.str := by
              rw [List.map_map]
              rfl
            rw [em] at e1
            refine ⟨Nat.zero_le _, fun e ne => ⟨_, _, .lst (lst_of (by rw [upd_ne (ne_of_none e1 ne)]; exact e1)) (dp_strs _), .lst (lst_of upd_same) .nil, ?_, rfl, ?_⟩⟩
            · refine shaped_of (d := .list (((z.cps.toList.filter fun c => !(isL c || isD c)).map fun c => (⟨#[c]⟩ : Str)).map PyData.str)) (okDs_strs fun y hy => ?_) (by simp only [PyData.depth, depth_strs]; decide)
              obtain ⟨c, hc, rfl⟩ := List.mem_map.mp hy
              exact sg_iff.mpr (sg_one (gz c (List.mem_filter.mp hc).1))
            · have q := k _ (s1.new' ne (o := .lst []))
              rw [en, hc] at q
              have ee : PyData.eqv (.list ((((z.cps.toList.filter fun c => !(isL c || isD c)).map fun c => (⟨#[c]⟩ : Str))).map PyData.str)) (.list []) = (true && z.cps.toList.all fun c => isL c || isD c) := by
                rw [PyData.eqv, Bool.true_and]
                cases hf : z.cps.toList.filter fun c => !(isL c || isD c) with
                | nil =>
                  rw [List.map_nil, List.map_nil]
                  have : ∀ c ∈ z.cps.toList, ¬ (!(isL c || isD c)) = true := List.filter_eq_nil_iff.mp hf
                  have h2 : (z.cps.toList.all fun c => isL c || isD c) = true := List.all_eq_true.mpr fun c hc => by
                    have q := this c hc
                    cases z1 : isL c || isD c with
                    | true => rfl
                    | false => exact absurd (by rw [z1]; rfl) q
                  rw [h2]
                  simp [PyData.eqvAll]
                | cons c r =>
                  have hm : c ∈ z.cps.toList.filter fun c => !(isL c || isD c) := by
                    rw [hf]
                    exact List.mem_cons_self
                  obtain ⟨m1, m2⟩ := List.mem_filter.mp hm
                  have h2 : (z.cps.toList.all fun c => isL c || isD c) = false := by
                    cases q : z.cps.toList.all fun c => isL c || isD c with
                    | false => rfl
                    | true =>
                      have := List.all_eq_true.mp q c m1
                      rw [this] at m2
                      cases m2
                  rw [h2, List.map_cons, List.map_cons]
                  simp [PyData.eqvAll]
              show Q (.bl (PyData.eqv _ _)) _
              rw [ee]
              exact q
      · refine ifT (by simp; omega) ?_
        have z0 := k H (Same.refl H)
        have en : nameOk z = false := by
          unfold nameOk
          rw [decide_eq_false h2]
          simp
        rw [en] at z0
        exact z0
    · refine ifF (decide_eq_false (show ¬ (0 : Int) < (z.length : Nat) by omega)) ?_
      refine ⟨_, rfl, iteT ?_⟩
      have z0 := k H (Same.refl H)
      have en : nameOk z = false := by
        unfold nameOk
        rw [decide_eq_false h1]
        rfl
      rw [en] at z0
      exact z0
end
end MH
namespace MH
open PySem PySem.Spec PyProof.Rows L2
/-- what the other side finds -/
def wrongO : Option (List V) → V
  | none => .non
  | some row => if row = [] then .non else match badV row with
    | none => .int (-1)
    | some i => .int (i : Nat)
def spLWrong (K : PySem.W.Frag) (C : Addr) : Sp := fun vs H Q _ => ∃ (v : V) (o : Option (List V)), vs = [v] ∧ Av K C H v o ∧ ∀ H', Same H H' → Q (wrongO o) H'
theorem wrongO_of {row : List V} (h : row ≠ []) : wrongO (some row) = match badV row with | none => V.int (-1) | some i => V.int (i : Nat) := if_neg h
theorem errO_of {row : List V} (h : row ≠ []) : errO (some row) = match badV row with | none => none | some i => some (V.int (i : Nat)) := if_neg h
theorem wrong_none {o : Option (List V)} (h : errO o = none) : ∃ row, o = some row ∧ row ≠ [] ∧ badV row = none ∧ wrongO o = .int (-1) := by
  cases o with
  | none => cases h
  | some row =>
    obtain ⟨hne, hb⟩ := errO_none h
    refine ⟨row, rfl, hne, hb, ?_⟩
    rw [wrongO_of hne, hb]
theorem wrong_some {o : Option (List V)} {ix : V} (h : errO o = some ix) : wrongO o = ix ∧ (ix = .non ∨ ∃ (row : List V) (i : Nat), o = some row ∧ badV row = some i ∧ ix = .int (i : Nat)) := by
  cases o with
  | none =>
    cases h
    exact ⟨rfl, .inl rfl⟩
  | some row =>
    by_cases hne : row = []
    · subst hne
      cases h
      exact ⟨rfl, .inl rfl⟩
    · rw [errO_of hne] at h
      rw [wrongO_of hne]
      cases hb : badV row with
      | none =>
        rw [hb] at h
        cases h
      | some i =>
        rw [hb] at h
        cases h
        exact ⟨rfl, .inr ⟨row, i, rfl, hb, rfl⟩⟩
def ixTxt : V → Str
  | .int i => (PyData.int i).shown
  | _ => "None"
/-- what a value is to tell -/
def outO (o : Option (List V)) : List V := match errO o with
  | none => [.str "returned", .str (Txt.join " " ((o.getD []).map strOf))]
  | some ix => [.str "InvalidRow", .str (ixTxt ix)]
def spLDue (K : PySem.W.Frag) (C : Addr) : Sp := fun vs H Q _ => ∃ (v : V) (o : Option (List V)), vs = [v] ∧ Av K C H v o ∧ ∀ p H', Same H H' → H p = none → H' p = some (.tup (outO o)) → Q (.ref p) H'
/-- what is told of an index -/
theorem ix_shw {K : PySem.W.Frag} {C : Addr} {H : Hp} {v : V} {o : Option (List V)} {ix : V} (av : Av K C H v o) (h : errO o = some ix) (H2 : Hp) : Shw K H2 ix (ixTxt ix) := by
  rcases (wrong_some h).2 with rfl | ⟨row, i, rfl, hb, rfl⟩
  · refine .inl ⟨.none, .non, rfl, by simp only [PyData.depth]; decide, by decide, ?_⟩
    rw [PyData.shown_none]
    rfl
  · obtain ⟨a, _, _, hl, _⟩ := av
    have := badV_lt hb
    refine .inl ⟨.int (i : Nat), .int _, ?_, by simp only [PyData.depth]; decide, (show 101 ≤ 100000 by decide), rfl⟩
    have h1 : ((i : Nat) : Int).natAbs = i := rfl
    show decide (((i : Nat) : Int).natAbs < 10 ^ 100) = true
    rw [h1]
    refine decide_eq_true (Nat.lt_of_lt_of_le (show i < 1000 by omega) ?_)
    exact Nat.le_trans (show 1000 ≤ 10 ^ 3 by decide) (Nat.pow_le_pow_right (by decide) (by decide))
section
variable {P : Program} {w : World} {K : PySem.W.Frag} {mg : Str → Option Value} {base : Heap}
theorem ok_l_wrong (T : Tx K mg) : FnOk P w K mg base CX0 5 T.a_l_wrong T.fd_l_wrong ["_law_rank"] (spLWrong K T.C) := by
  refine T.F_l_wrong.ok sc_l_wrong (fun vs H Q E h => ?_) (fun cdv A outer s H vs Q E hr h => ?_)
  · obtain ⟨v, o, rfl, _⟩ := h
    rfl
  · obtain ⟨v, o, rfl, av, k⟩ := h
    refine ⟨_, (pss_cons (ps_if (PW.pt (pw_or (pt_not (pt_val (pe_callB call_isi (by rfl) T.n_isinstance (by decide +kernel) (pa_cons (pv 0) (pa_cons (pe_bltn (v := .ty "tuple") (by rfl) T.n_tuple (by decide +kernel) rfl) pa_nil))))) (pw_or1 (pt_cmpR (op_eqT0 hr.units0) (pv 0) (pe_tup pa_nil) (nomark _)))))
        (pss_one (ps_ret pe_non))
        pss_nil)
      (pss_cons (ps_for PassesOwn.never rfl (pi_range1 (by rfl) T.n_range (pa_cons (pe_callB call_len_seq (by rfl) T.n_len (by decide +kernel) (pa_cons (pv 0) pa_nil)) pa_nil)) (pg_name (i := 1) sc_l_wrong.nd rfl (Or.inl rfl))
        (pss_one (ps_if (PW.pt (pw_or (pt_not (pt_val (pe_call (ok_l_is_name T) (hr.mono (by decide)) rfl T.g_l_is_name T.F_l_is_name.kp T.b_l_is_name .nil pass0 (pa_cons (pe_ix ix_tup (pv 0) (pv 1) (fun _ _ => rfl)) pa_nil)))) (pw_or (pt_cmpR op_eq (pv 1) pe_int (nomark _)) (pw_or1 (pt_cmpR op_in_seq (pe_ix ix_tup (pv 0) (pv 1) (fun _ _ => rfl)) (pe_slice sl_tupA (pv 0) po_none (po_some (pv 1))) (by rfl))))))
        (pss_one (ps_ret (pv 1)))
        pss_nil)))
      (pss_one (ps_ret (pe_un un_neg pe_int))))), ?_⟩
    cases o with
    | none =>
      obtain ⟨t, ty, kt⟩ := Av.no T av
      exact ⟨_, rfl, _, _, _, _, false, rfl, .ty _, ty, kt, false, rfl, iteT (k H (Same.refl H))⟩
    | some row =>
    obtain ⟨t, rfl, hT, hlen, hE⟩ := av
    refine ⟨_, rfl, _, _, _, _, true, rfl, .ty _, hT.ty, kit_ty (by decide +kernel), true, rfl, iteF ?_⟩
    refine ⟨_, rfl, by decide, fun e ne => ?_⟩
    have s1 := Same.new ne (o := .tup [])
    refine ⟨t, e, row, rfl, rfl, s1.sqt hT, tup_of upd_same, ?_⟩
    by_cases hne : row = []
    · rw [decide_eq_true hne]
      subst hne
      exact ⟨_, rfl, iteT (k _ s1)⟩
    have ed : decide (row = []) = false := decide_eq_false hne
    rw [ed]
    refine ⟨_, rfl, iteF ?_⟩
    have hT1 := s1.sqt (K := K) hT
    generalize upd H e (.tup []) = H1 at s1 hT1 ⊢
    refine ⟨_, rfl, t, _, rfl, .inr hT1, _, rfl, by omega, by omega, for_range (lo := 0) (n := (((row.length : Nat) : Int)).toNat) (fun i σ H' => ∃ v, σ = [some (.ref t), v] ∧ Same H H' ∧ ∀ j, j < i → badQ row j = false) ⟨none, rfl, s1, fun j hj => absurd hj (Nat.not_lt_zero j)⟩ ?_ ?_⟩
    · rintro i σ H' hi ⟨v, rfl, s2, hb⟩
      have hi2 : i < row.length := by omega
      have hT2 := s2.sqt (K := K) hT
      have hz1 : row[i]? = some row[i] := List.getElem?_eq_getElem hi2
      have gd := getDv hz1
      generalize row[i] = z at hz1 gd
      have g : row[i]? = some z := hz1
      have e0 : (0 : Int) + (i : Nat) = (i : Nat) := Int.zero_add _
      have mz := hE z (List.mem_of_getElem? hz1)
      rw [e0]
      refine ⟨_, rfl, _, rfl, t, _, _, _, rfl, rfl, hT2, atI_nat g, z, rfl, mz.frm (.of s2), fun H2 s3 => ?_⟩
      have s23 := s2.trans s3
      cases hn : nmV z with
      | false =>
        refine ⟨false, rfl, iteT (iteT ?_)⟩
        have b : badQ row i = true := by
          unfold badQ
          rw [gd, hn]
          simp
        have q := k H2 s23
        rw [wrongO_of hne] at q
        rw [badV_some hi2 b hb] at q
        exact ⟨_, rfl, q⟩
      | true =>
        refine ⟨true, rfl, iteF ?_⟩
        refine ⟨_, rfl, rfl, ?_⟩
        by_cases h10 : i = 10
        · refine ⟨_, rfl, ifT (decide_eq_true (by rw [h10]; rfl)) (iteT ?_)⟩
          have b : badQ row i = true := by
            unfold badQ
            rw [decide_eq_true (show 10 ≤ i by omega)]
            rfl
          have q := k H2 s23
          rw [wrongO_of hne] at q
          rw [badV_some hi2 b hb] at q
          exact ⟨_, rfl, q⟩
        · refine ⟨_, rfl, ifF (decide_eq_false (fun e => h10 (by have := V.int.inj e; omega))) ?_⟩
          refine ⟨_, rfl, _, rfl, t, _, _, _, rfl, rfl, s3.sqt hT2, atI_nat g, _, rfl, _, rfl, _, rfl, slA_of (s3.sqt hT2) fun q H3 s4 hq => ?_⟩
          rw [cut_upto] at hq
          obtain ⟨ez, _⟩ := nmV_str hn
          generalize strOf z = y at ez
          subst ez
          have et := names_take hb
          generalize (row.take i).map strOf = ss at et
          rw [et] at hq
          refine ⟨q, _, rfl, .inr hq, rfl, flat_strs _, ?_⟩
          show ∃ k, V.bl (inV (.str y) (ss.map V.str)) = V.bl k ∧ _
          rw [inV_strs]
          have s24 := s23.trans s4
          by_cases hm : y ∈ ss
          · refine ⟨_, rfl, ifT (decide_eq_true hm) ?_⟩
            have b : badQ row i = true := by
              unfold badQ
              rw [gd, et, decide_eq_true (mem_strs.mpr hm)]
              simp
            have q := k H3 s24
            rw [wrongO_of hne] at q
            rw [badV_some hi2 b hb] at q
            exact ⟨_, rfl, q⟩
          · refine ⟨_, rfl, ifF (decide_eq_false hm) ⟨_, rfl, s24, fun j hj => ?_⟩⟩
            rcases Nat.lt_succ_iff_lt_or_eq.mp hj with hj | rfl
            · exact hb j hj
            · have h11 : ¬ 10 ≤ j := fun h => by
                by_cases e : 10 < j
                · have q := hb 10 e
                  unfold badQ at q
                  simp at q
                · omega
              unfold badQ
              rw [gd, et, hn, decide_eq_false h11, decide_eq_false (fun m => hm (mem_strs.mp m))]
              rfl
    · rintro σ H' ⟨v, rfl, s2, hb⟩
      have q := k H' s2
      rw [wrongO_of hne] at q
      rw [badV_none (fun j hj => hb j (by omega))] at q
      exact ⟨1, rfl, q⟩
theorem g_l_due (T : Tx K mg) : FnG P w K mg base 6 T.a_l_due (spLDue K T.C) := by
  refine fun_g T.F_l_due sc_l_due T.b_l_due (fun vs H Q E h => ?_) (fun cdv A fr s H vs Q hg hr h => ?_)
  · obtain ⟨v, o, rfl, _⟩ := h
    rfl
  · obtain ⟨v, o, rfl, av, k⟩ := h
    refine ⟨_, (pss_cons (ps_set (i := 1) sc_l_due.nd rfl (Or.inl rfl) (pe_call (ok_l_wrong T) (hr.mono (by decide)) rfl T.g_l_wrong T.F_l_wrong.kp T.b_l_wrong .nil pass0 (pa_cons (pv 0) pa_nil)))
      (pss_one (ps_ret (pe_ifExp (pt_cmpR op_eq (pv 1) (pe_un un_neg pe_int) (nomark _)) (pe_tup (pa_cons pe_str (pa_cons (pe_join pe_str (pv 0)) pa_nil))) (pe_tup (pa_cons pe_str (pa_cons (pe_callB (call_reprV hg hr.units) (by rfl) T.n_repr (by decide +kernel) (pa_cons (pv 1) pa_nil)) pa_nil))))))), ?_⟩
    refine ⟨_, rfl, v, o, rfl, av, fun H1 s1 => ?_⟩
    cases he : errO o with
    | none =>
      obtain ⟨row, rfl, hne, hb, ew⟩ := wrong_none he
      rw [ew]
      obtain ⟨t, rfl, hT, hlen, hE⟩ := av
      obtain ⟨er, ro⟩ := rowOk_of hne hb
      refine ⟨_, rfl, 1, rfl, rfl, _, rfl, ifT (by decide) ?_⟩
      have jl := join_le ro
      have eo : outO (some row) = [.str "returned", .str (Txt.join " " (row.map strOf))] := by
        unfold outO
        rw [he]
        rfl
      rw [eo] at k
      generalize row.map strOf = ss at er ro jl k
      subst er
      refine ⟨⟨_, rfl⟩, _, rfl, _, t, ss, rfl, rfl, .inr (s1.sqt hT), jl, (by show 2 ≤ sizeLine; decide), fun p np => ?_⟩
      exact k p _ (s1.new' np) (back_none s1 np) upd_same
    | some ix =>
      obtain ⟨ew, ei⟩ := wrong_some he
      rw [ew]
      have hs := ix_shw (H2 := H1) av he
      have eo : outO o = [.str "InvalidRow", .str (ixTxt ix)] := by
        unfold outO
        rw [he]
      rw [eo] at k
      have hne : decide (ix = V.int (-1)) = false := decide_eq_false fun e => by
        rcases ei with rfl | ⟨_, i, _, _, rfl⟩
        · cases e
        · have := V.int.inj e
          omega
      have hsc : scal ix (.int (-1)) = true := by
        rcases ei with rfl | ⟨_, i, _, _, rfl⟩ <;> rfl
      refine ⟨_, rfl, 1, rfl, hsc, _, rfl, ifF hne ?_⟩
      refine ⟨_, rfl, ix, ixTxt ix, rfl, hs, (by show 2 ≤ sizeLine; decide), fun p np => ?_⟩
      exact k p _ (s1.new' np) (back_none s1 np) upd_same
end
end MH
namespace MH
open PySem PySem.Spec PyProof.Rows L2
/-- told(lambda: ..) of the one def -/
theorem pe_told_l_made {X : Cx} {q1 q2 : Str} {params : Arguments} {body : Expr} {scope : Scope} {t : XK → TE} {p lpos pos : Pos} (T : Tx X.K X.mg) (TB : TBs T X.base) (hcode : X.env.code = .ref T.c_l_made) (hg : X.A.guards = some []) (hr : Room 9 X.A) (gl : Gl X "_law_told")
    (hq : X.env.qual ++ "<lambda>" = (q1 ++ ".<locals>.") ++ "<lambda>") (L : LamX.LamS X.env.scope scope) (hdef : defaultsOf params X.env = ([], []))
    (hbind : ∀ (q : Str) (cl : List (Str × Addr)) (pm cv ctv : Value), bindArgs (PySem.W.kla_fn "<lambda>" q params body scope cl pm cv ctv) ⟨[], []⟩ = pure [])
    (hbody : ∀ (A : Around) (outer : List Env) (s : Shared) (H : Hp) (E : XK) (f c' : Addr), Room 7 (A.deeper (LamX.lamEnv X scope s.heap.objs.size f c')) → PE (LamX.lamCx X A outer s H E scope f c') body (t E)) :
    PE X (.Call (.Name "_law_told" p) [.Lambda params body scope lpos] [] pos) (LamX.tLam (tabsOf T q1 q2) (TTold T) t) :=
  pe_told T TB.1 List.mem_cons_self (fun x hx e => by
    rcases List.mem_cons.mp hx with rfl | hx
    · rfl
    · rw [List.mem_singleton.mp hx] at e
      exact absurd e.symm T.pne_l_made_l_right) hcode hg hr gl hq L hdef hbind hbody
/-- told(lambda: ..) of the other -/
theorem pe_told_l_right {X : Cx} {q1 q2 : Str} {params : Arguments} {body : Expr} {scope : Scope} {t : XK → TE} {p lpos pos : Pos} (T : Tx X.K X.mg) (TB : TBs T X.base) (hcode : X.env.code = .ref T.c_l_right) (hg : X.A.guards = some []) (hr : Room 9 X.A) (gl : Gl X "_law_told")
    (hq : X.env.qual ++ "<lambda>" = (q2 ++ ".<locals>.") ++ "<lambda>") (L : LamX.LamS X.env.scope scope) (hdef : defaultsOf params X.env = ([], []))
    (hbind : ∀ (q : Str) (cl : List (Str × Addr)) (pm cv ctv : Value), bindArgs (PySem.W.kla_fn "<lambda>" q params body scope cl pm cv ctv) ⟨[], []⟩ = pure [])
    (hbody : ∀ (A : Around) (outer : List Env) (s : Shared) (H : Hp) (E : XK) (f c' : Addr), Room 7 (A.deeper (LamX.lamEnv X scope s.heap.objs.size f c')) → PE (LamX.lamCx X A outer s H E scope f c') body (t E)) :
    PE X (.Call (.Name "_law_told" p) [.Lambda params body scope lpos] [] pos) (LamX.tLam (tabsOf T q1 q2) (TTold T) t) :=
  pe_told T TB.2 (List.mem_cons_of_mem _ List.mem_cons_self) (fun x hx e => by
    rcases List.mem_cons.mp hx with rfl | hx
    · exact absurd e T.pne_l_made_l_right
    · rw [List.mem_singleton.mp hx]) hcode hg hr gl hq L hdef hbind hbody
theorem outO_none {o : Option (List V)} (h : errO o = none) : outO o = [.str "returned", .str (Txt.join " " ((o.getD []).map strOf))] := by
  unfold outO
  rw [h]
theorem outO_some {o : Option (List V)} {ix : V} (h : errO o = some ix) : outO o = [.str "InvalidRow", .str (ixTxt ix)] := by
  unfold outO
  rw [h]
/-- what an error tells -/
theorem err_out {K : PySem.W.Frag} {mg : Str → Option Value} (T : Tx K mg) {TL : List (Addr × Str)} {H1 H0 : Hp} {v ix : V} {o : Option (List V)} {R : VK} (av : Av K T.C H0 v o) (he : errO o = some ix) (t1 : LamX.Tabs TL H1) (e0 : Same H1 H0)
    (hR : ∀ p H2, LamX.ExtN H1 H2 → LamX.Tabs TL H2 → H2 p = some (.tup (outO o)) → R (.ref p) H2) : ErrIx T.E_InvalidRow H0 (ErrOut T R) ix := by
  intro dd H' s nd hd
  refine ⟨T.E_InvalidRow, "InvalidRow", "index", dd, _, ix, ixTxt ix, .row, rfl, rfl, hd, rfl, ix_shw av he H', fun p H3 s3 np hp => ?_⟩
  have s23 := (e0.trans s).trans s3
  refine hR p _ (extN_of s23) (tabs_same t1 s23) ?_
  rw [hp, outO_some he]
theorem rk_str {K : PySem.W.Frag} {C y : Addr} {H : Hp} {row : List Str} {R : VK} (rk : RkAt K C H y row) (h : R (.str (Txt.join " " row)) H) : rStrO C (spStr K C) E0 [.ref y] H R := by
  obtain ⟨dx, t, ts, th, hx, _⟩ := id rk
  exact ⟨y, dx, _, rfl, hx, y, _, rfl, rk, ⟨_, rfl⟩, h⟩
theorem ret_outT {TL : List (Addr × Str)} {H1 H' : Hp} {o : Option (List V)} {R : VK} (he : errO o = none) (t1 : LamX.Tabs TL H1) (s2 : Same H1 H')
    (hR : ∀ p H2, LamX.ExtN H1 H2 → LamX.Tabs TL H2 → H2 p = some (.tup (outO o)) → R (.ref p) H2) : RetOut R (.str (Txt.join " " ((o.getD []).map strOf))) H' := by
  refine ret_out fun p np => ?_
  have s3 := s2.new' np (o := .tup [.str "returned", .str (Txt.join " " ((o.getD []).map strOf))])
  refine hR p _ (extN_of s3) (tabs_same t1 s3) ?_
  rw [upd_same, outO_none he]
theorem told_make {K : PySem.W.Frag} {mg : Str → Option Value} (T : Tx K mg) {TL : List (Addr × Str)} {tl : XK → Hp → VK → Prop} {H1 : Hp} {v : V} {o : Option (List V)} {R : VK} (av : Av K T.C H1 v o) (t1 : LamX.Tabs TL H1)
    (hRD : ∀ (E : XK) (R' : VK), (∀ y dy : Addr, H1 y = none → H1 dy = none → dy ≠ y → spInitX K T.C T.E_InvalidRow [.ref y, v] (upd (upd H1 dy (.own y)) y (.ins T.C dy [])) (fun x H' => x = .non ∧ rStrO T.C (spStr K T.C) E0 [.ref y] H' R') E) → tl E H1 R')
    (hR : ∀ p H2, LamX.ExtN H1 H2 → LamX.Tabs TL H2 → H2 p = some (.tup (outO o)) → R (.ref p) H2) : TTold T tl H1 R := by
  refine hRD _ _ (make_of (Q := fun x H' => rStrO T.C (spStr K T.C) E0 [x] H' (RetOut R)) av (fun row eo he y H3 s3 rk => ?_) fun ix he => err_out T av he t1 (Same.refl _) hR)
  subst eo
  exact rk_str rk (ret_outT he t1 s3 hR)
theorem told_of {K : PySem.W.Frag} {mg : Str → Option Value} (T : Tx K mg) {TL : List (Addr × Str)} {tl : XK → Hp → VK → Prop} {H1 : Hp} {rest : List V} {R : VK} {G : VK → VK} (hE : ∀ x ∈ rest, El K H1 x) (hl : rest.length ≤ 11) (t1 : LamX.Tabs TL H1)
    (hG : ∀ (R' : VK) (x : Addr) (H2 : Hp), errO (some rest) = none → RkAt K T.C H2 x (rest.map strOf) → R' (.str (Txt.join " " (rest.map strOf))) H2 → G R' (.ref x) H2)
    (hRD : ∀ (E : XK) (R' : VK), (∀ p : Addr, H1 p = none → spOfX K T.C T.E_InvalidRow [.ref T.C, .ref p] (upd H1 p (.tup rest)) (G R') E) → tl E H1 R')
    (hR : ∀ p H2, LamX.ExtN H1 H2 → LamX.Tabs TL H2 → H2 p = some (.tup (outO (some rest))) → R (.ref p) H2) : TTold T tl H1 R := by
  refine hRD _ _ fun p np => ?_
  have s0 := Same.new np (o := .tup rest)
  have av : Av K T.C (upd H1 p (.tup rest)) (.ref p) (some rest) := ⟨p, rfl, tup_of upd_same, by omega, fun x hx => (hE x hx).frm (.of s0)⟩
  refine ⟨p, rest, rfl, av, fun he x' H' s' rk => hG _ _ _ he rk (ret_outT (o := some rest) he t1 (s0.trans s') hR), fun ix he => err_out T av he t1 s0 hR⟩
def spMade {K : PySem.W.Frag} {mg : Str → Option Value} (T : Tx K mg) (q1 q2 : Str) : Sp := fun vs H Q _ => ∃ (v : V) (o : Option (List V)), vs = [v] ∧ Av K T.C H v o ∧ LamX.Tabs (tabsOf T q1 q2) H ∧
  ∀ p H', LamX.ExtN H H' → LamX.Tabs (tabsOf T q1 q2) H' → H' p = some (.tup (outO o)) → Q (.ref p) H'
theorem frm_extN {H H' : Hp} (e : LamX.ExtN H H') : Frm H H' := fun b o h _ t => e b o h t
section
variable {P : Program} {w : World} {K : PySem.W.Frag} {mg : Str → Option Value} {base : Heap}
theorem g_l_made_q {q1 q2 : Str} (T : Tx K mg) (TB : TBs T base) (M : MkFn K q1 st_l_made T.a_l_made T.c_l_made ["_law_rank"]) : FnG P w K mg base 10 T.a_l_made (spMade T q1 q2) := by
  refine fun_m M sc_l_made (fun vs H Q E h => ?_) (fun A fr s H vs Q hg hr h => ?_)
  · obtain ⟨v, o, rfl, _⟩ := h
    rfl
  · obtain ⟨v, o, rfl, av, tb, k⟩ := h
    refine ⟨_, (pss_one (ps_ret (pe_told_l_made (q1 := q1) (q2 := q2) T TB rfl hg (hr.mono (by decide)) rfl rfl (LamX.lamS_by (show LamX.lamSB (defScope st_l_made) _ = true by decide +kernel)) rfl (fun _ _ _ _ _ => rfl) (fun A outer s H E f c' hr => (pe_callTy (call_strO T.m_RankingD_strD (ok_RankingD_strD T) (hr.mono (by decide)) T.b_RankingD_strD pass0) (by rfl) T.n_str (by decide +kernel) (pa_cons (pe_make T.mkc (okX_RankingD_initD T) (hr.mono (by decide)) rfl T.g_Ranking T.b_RankingD_initD .nil (passX rfl rfl rfl rfl) (pa_cons (pv 0) pa_nil)) pa_nil)))))), ?_⟩
    refine ⟨tb, fun H1 e1 t1 => ?_⟩
    exact told_make T (av.frm (frm_extN e1)) t1 (fun E R' h => ⟨_, rfl, h⟩) fun p H2 e2 t2 hp => k p H2 (e1.trans e2) t2 hp
end
end MH
namespace MH
open PySem PySem.Spec PyProof.Rows L2
/-- all but the purse and the tables of code stand -/
def SameT (p : Addr) (H H' : Hp) : Prop := ∀ b o, b ≠ p → H b = some o → (∀ ps, o ≠ .tbl ps) → H' b = some o
theorem SameT.refl (p : Addr) (H : Hp) : SameT p H H := fun _ _ _ e _ => e
theorem SameT.trans {p : Addr} {H H1 H2 : Hp} (a : SameT p H H1) (b : SameT p H1 H2) : SameT p H H2 := fun c o n e t => b c o n (a c o n e t) t
theorem SameT.of {p : Addr} {H H' : Hp} (s : SameB p H H') : SameT p H H' := fun b o n e _ => s b o n e
theorem SameT.ofN {p : Addr} {H H' : Hp} (s : LamX.ExtN H H') : SameT p H H' := fun b o _ e t => s b o e t
theorem Pu.extN {H H' : Hp} {p : Addr} (u : Pu H p) (s : LamX.ExtN H H') : Pu H' p := by
  obtain ⟨x, y, hp, h⟩ := u
  exact ⟨x, y, s _ _ hp (fun _ z => nomatch z), h⟩
theorem tabs_pu {TT : List (Addr × Str)} {H H' : Hp} {p : Addr} (t : LamX.Tabs TT H) (u : Pu H p) (s : SameB p H H') : LamX.Tabs TT H' := by
  obtain ⟨x, y, hp, _⟩ := u
  exact tabs_but t hp (fun _ z => nomatch z) (fun _ _ z => nomatch z) s
theorem SameT.frm {p : Addr} {H H' : Hp} (s : SameT p H H') (u : Pu H p) : Frm H H' := fun b o e n t => s b o (fun q => by
  subst q
  obtain ⟨x, y, hp, _⟩ := u
  rw [hp] at e
  exact n x y (Option.some.inj e).symm) e t
/-- how it stands between two acts -/
structure Std {K : PySem.W.Frag} {mg : Str → Option Value} (T : Tx K mg) (q1 q2 : Str) (p : Addr) (H0 H : Hp) : Prop where
  st : SameT p H0 H
  pu : Pu H p
  tb : LamX.Tabs (tabsOf T q1 q2) H
section
variable {K : PySem.W.Frag} {mg : Str → Option Value} {T : Tx K mg} {q1 q2 : Str} {p : Addr} {H0 H H' : Hp}
theorem Std.same (d : Std T q1 q2 p H0 H) (s : Same H H') : Std T q1 q2 p H0 H' := ⟨d.st.trans (.of (.of s)), d.pu.same s, tabs_same d.tb s⟩
theorem Std.but (d : Std T q1 q2 p H0 H) (s : SameB p H H') (u : Pu H' p) : Std T q1 q2 p H0 H' := ⟨d.st.trans (.of s), u, tabs_pu d.tb d.pu s⟩
theorem Std.ext (d : Std T q1 q2 p H0 H) (s : LamX.ExtN H H') (t : LamX.Tabs (tabsOf T q1 q2) H') : Std T q1 q2 p H0 H' := ⟨d.st.trans (.ofN s), d.pu.extN s, t⟩
theorem Std.frm (d : Std T q1 q2 p H0 H) (u : Pu H0 p) : Frm H0 H := d.st.frm u
end
theorem frm_but {H H' : Hp} {p : Addr} (s : SameB p H H') (u : Pu H p) : Frm H H' := SameT.frm (.of s) u
/-- t + u -/
theorem catA_of {K : PySem.W.Frag} {H : Hp} {a b : Addr} {xs ys : List V} {Q : VK} (ha : SqT K H a xs) (hb : SqT K H b ys) (hl : xs.length + ys.length ≤ 1000) (k : ∀ p H', Same H H' → SqT K H' p (xs ++ ys) → Q (.ref p) H') : rCatA K (.ref a) (.ref b) H Q := by
  refine ⟨a, b, xs, ys, rfl, rfl, ha, hb, le_line (by omega), fun e => ?_, fun _ e => ?_, fun _ _ p np => k p _ (Same.new np) (tup_of upd_same)⟩
  · subst e
    exact k b H (Same.refl H) hb
  · subst e
    refine k a H (Same.refl H) ?_
    rw [List.append_nil]
    exact ha
theorem at_in {l : List V} {d : Int} (h0 : 0 ≤ d) (h1 : d < (l.length : Nat)) : ∃ c, atI l d = some c ∧ c ∈ l := by
  have hk : d.toNat < l.length := by omega
  have ed : d = ((d.toNat : Nat) : Int) := by omega
  have g : l[d.toNat]? = some l[d.toNat] := List.getElem?_eq_getElem hk
  have q : atI l ((d.toNat : Nat) : Int) = some l[d.toNat] := atI_nat g
  exact ⟨_, by rw [← ed] at q; exact q, List.getElem_mem hk⟩
theorem sg_name {z : Str} (h : nameOk z = true) : SgOk z := by
  unfold nameOk at h
  simp only [Bool.and_eq_true, decide_eq_true_eq] at h
  have q := h.2.2.2
  rw [List.all_eq_true] at q
  intro c hc
  have w := q c hc
  rw [Bool.or_eq_true] at w
  rcases w with w | w
  · have := isL_le w
    omega
  · have := isD_le w
    omega
theorem el_name {K : PySem.W.Frag} {H : Hp} {z : Str} (h : nameOk z = true) : El K H (.str z) := .inl ⟨z, rfl, sg_name h, Nat.le_trans (nameOk_len h) (by decide)⟩
theorem el_lit {K : PySem.W.Frag} {H : Hp} (s : String) (h : (Str.ofString s).length ≤ 1000) : El K H (.str (Str.ofString s)) := .inl ⟨_, rfl, sg_ofString s, h⟩
theorem out_two {K : PySem.W.Frag} {C : Addr} {H : Hp} {v : V} {o : Option (List V)} (av : Av K C H v o) : ∃ a b : Str, outO o = [.str a, .str b] ∧ SgOk a ∧ SgOk b := by
  cases he : errO o with
  | none =>
    obtain ⟨row, rfl, hne, hb, _⟩ := wrong_none he
    obtain ⟨_, ro⟩ := rowOk_of hne hb
    refine ⟨_, _, outO_none he, sg_ofString _, ?_⟩
    rw [TL.join_eq]
    exact sg_join (sg_ofString _) fun z hz => sg_name (ro.ok z hz)
  | some ix => exact ⟨_, _, outO_some he, sg_ofString _, (ix_shw (H2 := H) av he).sg⟩
theorem two_shaped {a b : Str} (ga : SgOk a) (gb : SgOk b) : SeqAt.shaped (.tuple [.str a, .str b]) = true := shaped_of (d := .tuple [.str a, .str b]) (okDs_strs (ss := [a, b]) fun z hz => by
  rcases List.mem_cons.mp hz with rfl | hz
  · exact sg_iff.mpr ga
  · rw [List.mem_singleton.mp hz]
    exact sg_iff.mpr gb) (by simp only [PyData.depth, PyData.depthAll]; decide)
theorem eqv_two (a b : Str) : PyData.eqv (.tuple [.str a, .str b]) (.tuple [.str a, .str b]) = true := by
  simp [PyData.eqv, PyData.eqvAll]
theorem ne_two {K : PySem.W.Frag} {H : Hp} {p q : Addr} {a b : Str} {Q : VK} (ga : SgOk a) (gb : SgOk b) (hp : H p = some (.tup [.str a, .str b])) (hq : H q = some (.tup [.str a, .str b])) (k : Q (.bl false) H) : rNeD K (.ref p) (.ref q) H Q := by
  refine ⟨.tuple [.str a, .str b], .tuple [.str a, .str b], .tup (tup_of hp) (.cons (.str _) (.cons (.str _) .nil)), .tup (tup_of hq) (.cons (.str _) (.cons (.str _) .nil)), two_shaped ga gb, two_shaped ga gb, ?_⟩
  rw [eqv_two]
  exact k
theorem eq_two {K : PySem.W.Frag} {H : Hp} {p q : Addr} {a b : Str} {Q : VK} (ga : SgOk a) (gb : SgOk b) (hp : H p = some (.tup [.str a, .str b])) (hq : H q = some (.tup [.str a, .str b])) (k : Q (.bl true) H) : rEqD K (.ref p) (.ref q) H Q := by
  refine ⟨.tuple [.str a, .str b], .tuple [.str a, .str b], .tup (tup_of hp) (.cons (.str _) (.cons (.str _) .nil)), .tup (tup_of hq) (.cons (.str _) (.cons (.str _) .nil)), two_shaped ga gb, two_shaped ga gb, ?_⟩
  rw [eqv_two]
  exact k
/-- what was told stands at p: it is what is due -/
theorem due_ok {K : PySem.W.Frag} {mg : Str → Option Value} (T : Tx K mg) {H : Hp} {p : Addr} {v : V} {o : Option (List V)} {Q : VK} (av : Av K T.C H v o) (hp : H p = some (.tup (outO o)))
    (k : ∀ H', Same H H' → Q (.bl false) H') : spLDue K T.C [v] H (fun y H2 => rNeD K (.ref p) y H2 Q) E0 := by
  refine ⟨v, o, rfl, av, fun q H4 s4 nq hq => ?_⟩
  obtain ⟨a, b, e, ga, gb⟩ := out_two av
  rw [e] at hq hp
  exact ne_two ga gb (s4 _ _ hp) hq (k H4 s4)
def spRight {K : PySem.W.Frag} {mg : Str → Option Value} (T : Tx K mg) (q1 q2 : Str) : Sp := fun vs H Q _ => ∃ p : Addr, vs = [.ref p] ∧ Pu H p ∧ LamX.Tabs (tabsOf T q1 q2) H ∧ ∀ H', SameT p H H' → LamX.Tabs (tabsOf T q1 q2) H' → Q (.bl true) H'
theorem new2 {H : Hp} {p : Addr} {o : HO} (h : H p = none) : Same H (upd H p o) ∧ (upd H p o) p = some o := ⟨Same.new h, upd_same⟩
theorem no_part {σ : L2.St} {H : Hp} {Q : Option Int → Hp → Prop} (h : Q none H) : tNoPart σ H Q := h
theorem make_ofA {K : PySem.W.Frag} {C E1 : Addr} {H : Hp} {v : V} {o : Option (List V)} {Q : Addr → Hp → Prop} {E : XK} (av : Av K C H v o) (good : ∀ row, o = some row → errO o = none → ∀ y H3, Same H H3 → RkAt K C H3 y (row.map strOf) → Q y H3)
    (bad : ∀ ix, errO o = some ix → ErrIx E1 H E ix) : ∀ y dy : Addr, H y = none → H dy = none → dy ≠ y → spInitX K C E1 [.ref y, v] (upd (upd H dy (.own y)) y (.ins C dy [])) (fun x H' => x = .non ∧ Q y H') E := by
  intro y dy ny ndy hne2
  have s0 : Same H (upd (upd H dy (.own y)) y (.ins C dy [])) := Same.new' (Same.new ndy) (by rw [upd_ne hne2.symm]; exact ny)
  refine ⟨y, dy, v, o, rfl, upd_same, av.frm (.of s0), fun row eo he H3 s3 rk => ⟨rfl, good row eo he y H3 (fun b x e => ?_) rk⟩, fun ix he dd H' s3 nd hd => bad ix he dd H' (s0.trans s3) (back_none s0 nd) hd⟩
  have nb : b ≠ y := ne_of_none e ny
  refine s3 b x nb ?_
  rw [upd_ne nb, upd_ne (ne_of_none e ndy)]
  exact e
end MH
namespace MH
open PySem PySem.Spec PyProof.Rows L2
section
variable {P : Program} {w : World} {K : PySem.W.Frag} {mg : Str → Option Value} {base : Heap}
theorem g_l_right_q {q1 q2 : Str} (T : Tx K mg) (TB : TBs T base) (M1 : MkFn K q1 st_l_made T.a_l_made T.c_l_made ["_law_rank"]) (M : MkFn K q2 st_l_right T.a_l_right T.c_l_right ["_law_purse_here"]) : FnG P w K mg base 11 T.a_l_right (spRight T q1 q2) := by
  refine fun_m M sc_l_right (fun vs H Q E h => ?_) (fun A fr s H vs Q hg hr h => ?_)
  · obtain ⟨p, rfl, _⟩ := h
    rfl
  · obtain ⟨p, rfl, pu, tb, k⟩ := h
    have g_l_made := fun (T' : Tx K mg) (TB' : TBs T' base) => g_l_made_q (P := P) (w := w) (q2 := q2) T TB M1
    refine ⟨_, (pss_cons (ps_set (i := 1) sc_l_right.nd rfl (Or.inl rfl) (pe_call (ok_l_things T) (hr.mono (by decide)) rfl T.g_l_things T.F_l_things.kp T.b_l_things .nil pass0 (pa_cons (pv 0) (pa_cons (pe_op op_add pe_int (pe_call (ok_l_draw T) (hr.mono (by decide)) rfl T.g_l_draw T.F_l_draw.kp T.b_l_draw .nil pass0 (pa_cons (pv 0) (pa_cons pe_int pa_nil)))) pa_nil))))
      (pss_cons (ps_set (i := 2) sc_l_right.nd rfl (Or.inl rfl) (pe_call (ok_l_order T) (hr.mono (by decide)) rfl T.g_l_order T.F_l_order.kp T.b_l_order .nil pass0 (pa_cons (pv 0) (pa_cons (pv 1) pa_nil))))
      (pss_cons (ps_set (i := 3) sc_l_right.nd rfl (Or.inr rfl) (pe_lst (pa_cons pe_non (pa_cons pe_int (pa_cons pe_bl (pa_cons pe_str (pa_cons pe_str (pa_cons pe_str (pa_cons pe_str (pa_cons pe_str (pa_cons (pe_tup pa_nil) (pa_cons (pe_tup (pa_cons pe_str pa_nil)) (pa_cons (pe_lst pa_nil) (pa_cons pe_dnewK (pa_cons pe_str (pa_cons (pe_ix ix_tup (pv 2) pe_int (fun _ _ => rfl)) (pa_cons (pe_ix ix_tup (pv 2) (pe_un un_neg pe_int) (fun _ _ => rfl)) (pa_cons pe_str pa_nil))))))))))))))))))
      (pss_cons (ps_for PassesOwn.never rfl (pi_range1 (by rfl) T.n_range (pa_cons pe_int pa_nil)) (pg_name (i := 4) sc_l_right.nd rfl (Or.inl rfl))
        (pss_cons (ps_set (i := 10) sc_l_right.nd rfl (Or.inr rfl) (pv 2))
      (pss_cons (ps_for PassesOwn.never rfl (pi_range1 (by rfl) T.n_range (pa_cons (pe_call (ok_l_draw T) (hr.mono (by decide)) rfl T.g_l_draw T.F_l_draw.kp T.b_l_draw .nil pass0 (pa_cons (pv 0) (pa_cons pe_int pa_nil))) pa_nil)) (pg_name (i := 5) sc_l_right.nd rfl (Or.inl rfl))
        (pss_cons (ps_par (i := 6) (j := 7) rfl sc_l_right.nd rfl rfl (by decide) rfl rfl (pa_cons (pe_call (ok_l_draw T) (hr.mono (by decide)) rfl T.g_l_draw T.F_l_draw.kp T.b_l_draw .nil pass0 (pa_cons (pv 0) (pa_cons (pe_op op_add (pe_callB call_len_seq (by rfl) T.n_len (by decide +kernel) (pa_cons (pv 10) pa_nil)) pe_int) pa_nil))) (pa_cons (pe_call (ok_l_draw T) (hr.mono (by decide)) rfl T.g_l_draw T.F_l_draw.kp T.b_l_draw .nil pass0 (pa_cons (pv 0) (pa_cons pe_int pa_nil))) pa_nil)) (by rfl))
      (pss_one (ps_set (i := 10) sc_l_right.nd rfl (Or.inr rfl) (pe_op op_catA (pe_op op_catA (pe_slice sl_tupA (pv 10) po_none (po_some (pv 6))) (pe_tup (pa_cons (pe_ix ix_list (pv 3) (pe_call (ok_l_draw T) (hr.mono (by decide)) rfl T.g_l_draw T.F_l_draw.kp T.b_l_draw .nil pass0 (pa_cons (pv 0) (pa_cons pe_int pa_nil))) (fun _ _ => rfl)) pa_nil))) (pe_slice sl_tupA (pv 10) (po_some (pe_op op_add (pv 6) (pv 7))) po_none))))))
      (pss_cons (ps_if (PW.pt (pw_or (pt_cmpR (op_neD hr.units) (pe_callg (g_l_made T TB) hg (hr.mono (by decide)) rfl T.g_l_made T.F_l_made.kp (pa_cons (pv 10) pa_nil)) (pe_callg (g_l_due T) hg (hr.mono (by decide)) rfl T.g_l_due T.F_l_due.kp (pa_cons (pv 10) pa_nil)) (nomark _)) (pw_or1 (pt_cmpR (op_neD hr.units) (pe_told_l_right (q1 := q1) (q2 := q2) T TB rfl hg (hr.mono (by decide)) rfl rfl (LamX.lamS_by (show LamX.lamSB (defScope st_l_right) _ = true by decide +kernel)) rfl (fun _ _ _ _ _ => rfl) (fun A outer s H E f c' hr => (pe_callTy (call_strO T.m_RankingD_strD (ok_RankingD_strD T) (hr.mono (by decide)) T.b_RankingD_strD pass0) (by rfl) T.n_str (by decide +kernel) (pa_cons (pe_makeK0 T.mkc (okX_RankingD_initD T) (hr.mono (by decide)) rfl T.g_Ranking T.kb_RankingD_initD (passX rfl rfl rfl rfl) (pk_cons (pv 10) pk_nil)) pa_nil)))) (pe_callg (g_l_due T) hg (hr.mono (by decide)) rfl T.g_l_due T.F_l_due.kp (pa_cons (pv 10) pa_nil)) (nomark _)))))
        (pss_one (ps_ret pe_bl))
        pss_nil)
      (pss_cons (ps_if (pt_cmpR (op_neD hr.units) (pe_callg (g_l_made T TB) hg (hr.mono (by decide)) rfl T.g_l_made T.F_l_made.kp (pa_cons (pe_slice sl_tupA (pv 2) po_none (po_some pe_int)) pa_nil)) (pe_tup (pa_cons pe_str (pa_cons (pe_join pe_str (pe_slice sl_tupA (pv 2) po_none (po_some pe_int))) pa_nil))) (nomark _))
        (pss_one (ps_ret pe_bl))
        pss_nil)
      (pss_cons (ps_set (i := 11) sc_l_right.nd rfl (Or.inr rfl) (pe_lc (own := [("_law_k", 12)]) (g := gName 12) (tt := tYes) rfl sc_l_right.nd (pi_range1 (by rfl) T.n_range (pa_cons pe_int pa_nil)) (blkOk_by (own := [("_law_k", 12)]) (N := names_l_right) (sc := defScope st_l_right) (by decide +kernel)) (fun _ _ _ _ _ => pg_name (i := 12) sc_l_right.nd rfl (Or.inl rfl)) (fun _ _ _ _ _ => pts_nil) (fun _ _ _ _ _ => (pe_ix (r := rIxL K) ix_list (pv 3) (pe_call (ok_l_draw T) (hr.mono (by decide)) rfl T.g_l_draw T.F_l_draw.kp T.b_l_draw .nil pass0 (pa_cons (pv 0) (pa_cons pe_int pa_nil))) (fun _ _ => rfl)))))
      (pss_one (ps_if (pt_cmpR (op_neD hr.units) (pe_told_l_right (q1 := q1) (q2 := q2) T TB rfl hg (hr.mono (by decide)) rfl rfl (LamX.lamS_by (show LamX.lamSB (defScope st_l_right) _ = true by decide +kernel)) rfl (fun _ _ _ _ _ => rfl) (fun A outer s H E f c' hr => (pe_callTy (call_strO T.m_RankingD_strD (ok_RankingD_strD T) (hr.mono (by decide)) T.b_RankingD_strD pass0) (by rfl) T.n_str (by decide +kernel) (pa_cons (ClX.pe_cmeth (pe_glob (v := .ref T.C) rfl T.g_Ranking rfl) T.crd T.cm_Ranking_of (okR_Ranking_of T) (hr.mono (by decide)) (passX rfl rfl rfl rfl) (pa_cons (pe_ix (r := rIxL K) ix_list (pv 11) pe_int (fun _ _ => rfl)) (pa_cons (pe_ix (r := rIxL K) ix_list (pv 11) pe_int (fun _ _ => rfl)) (pa_cons (pe_ix (r := rIxL K) ix_list (pv 11) pe_int (fun _ _ => rfl)) pa_nil)))) pa_nil)))) (pe_callg (g_l_due T) hg (hr.mono (by decide)) rfl T.g_l_due T.F_l_due.kp (pa_cons (pe_callTy call_tupF (by rfl) T.n_tuple (by decide +kernel) (pa_cons (pv 11) pa_nil)) pa_nil)) (nomark _))
        (pss_one (ps_ret pe_bl))
        pss_nil))))))))
      (pss_cons (ps_for PassesOwn.never rfl (pi_list (pe_lst (pa_cons pe_non (pa_cons (pe_tup pa_nil) (pa_cons (pe_callTy call_list_of (by rfl) T.n_list (by decide +kernel) (pa_cons (pv 2) pa_nil)) (pa_cons (pe_join pe_str (pv 2)) (pa_cons pe_dnewK (pa_cons pe_int (pa_cons pe_bl (pa_cons (pe_make T.mkc (okX_RankingD_initD T) (hr.mono (by decide)) rfl T.g_Ranking T.b_RankingD_initD .nil pass00 (pa_cons (pe_slice sl_tupA (pv 2) po_none (po_some pe_int)) pa_nil)) (pa_cons (pe_tup (pa_cons (pv 2) pa_nil)) (pa_cons (pv 2) pa_nil)))))))))))) (pg_name (i := 8) sc_l_right.nd rfl (Or.inl rfl))
        (pss_one (ps_if (pt_cmpR (op_neD hr.units) (pe_callg (g_l_made T TB) hg (hr.mono (by decide)) rfl T.g_l_made T.F_l_made.kp (pa_cons (pv 8) pa_nil)) (pe_callg (g_l_due T) hg (hr.mono (by decide)) rfl T.g_l_due T.F_l_due.kp (pa_cons (pv 8) pa_nil)) (nomark _))
        (pss_one (ps_ret pe_bl))
        pss_nil)))
      (pss_cons (ps_set (i := 9) sc_l_right.nd rfl (Or.inl rfl) (pe_told_l_right (q1 := q1) (q2 := q2) T TB rfl hg (hr.mono (by decide)) rfl rfl (LamX.lamS_by (show LamX.lamSB (defScope st_l_right) _ = true by decide +kernel)) rfl (fun _ _ _ _ _ => rfl) (fun A outer s H E f c' hr => (ClX.pe_cmeth (pe_glob (v := .ref T.C) rfl T.g_Ranking rfl) T.crd T.cm_Ranking_of (okR_Ranking_of T) (hr.mono (by decide)) (passX rfl rfl rfl rfl) (pa_cons pe_str (pa_cons pe_str (pa_cons pe_str (pa_cons pe_str (pa_cons pe_str (pa_cons pe_str (pa_cons pe_str (pa_cons pe_str (pa_cons pe_str (pa_cons pe_str (pa_cons pe_str pa_nil)))))))))))))))
      (pss_one (ps_ret (pe_and (pe_cmpR (op_eqD hr.units) (pv 9) (pe_tup (pa_cons pe_str (pa_cons pe_str pa_nil))) (nomark _)) (pe_one (pe_cmpR (op_eqD hr.units) (pe_told_l_right (q1 := q1) (q2 := q2) T TB rfl hg (hr.mono (by decide)) rfl rfl (LamX.lamS_by (show LamX.lamSB (defScope st_l_right) _ = true by decide +kernel)) rfl (fun _ _ _ _ _ => rfl) (fun A outer s H E f c' hr => (pe_cmeth0 (pe_glob (v := .ref T.C) rfl T.g_Ranking rfl) T.crd T.cm_Ranking_of (okR_Ranking_of T) (hr.mono (by decide)) (passX rfl rfl rfl rfl)))) (pe_tup (pa_cons pe_str (pa_cons pe_str pa_nil))) (nomark _)))))))))))), ?_⟩
    refine ⟨_, rfl, _, rfl, p, 12, rfl, pu, by decide, by decide, fun d H1 d0 d1 sb1 pu1 => ⟨_, _, rfl, rfl, p, 1 + d, rfl, pu1, by omega, by omega, fun ss a H2 nd so inp len sb2 pu2 hA => ?_⟩⟩
    refine ⟨_, rfl, _, rfl, p, a, ss, rfl, pu2, hA, by omega, fun row a2 H3 pm sb3 pu3 hT0 => ?_⟩
    have rowok : ∀ z ∈ row, nameOk z = true := fun z hz => pool_ok z (inp z (pm.subset hz))
    have rownd : row.Nodup := pm.nodup_iff.mpr nd
    have rowlen : row.length ≤ 12 ∧ 0 < row.length := by
      have := pm.length_eq
      omega
    have sb03 := (sb1.trans sb2).trans sb3
    have hT : SqT K H3 a2 (row.map V.str) := hT0.sqt
    have rne : row ≠ [] := fun e => by
      rw [e] at rowlen
      exact absurd rowlen.2 (by decide)
    have dropped : ∀ {H : Hp} (i : Nat), (∀ x ∈ (row.map V.str).take i, El K H x) := fun {H} i x hx => by
      obtain ⟨z, hz, rfl⟩ := List.mem_map.mp (List.mem_of_mem_take hx)
      exact el_name (rowok z hz)
    have len0 : (row.map V.str).length = row.length := List.length_map _
    have rowav : ∀ {H : Hp} {b : Addr} (i : Nat), SqT K H b ((row.map V.str).take i) → Av K T.C H (.ref b) (some ((row.map V.str).take i)) := fun {H b} i hb => ⟨b, rfl, hb, (by rw [List.length_take]; omega), dropped i⟩
    have strs_id : ∀ l : List Str, (l.map V.str).map strOf = l := fun l => by
      rw [List.map_map]
      exact List.map_id l
    have errs : ∀ i, 0 < i → i ≤ 10 → errO (some ((row.map V.str).take i)) = none := fun i i0 i10 => by
      have hne : (row.map V.str).take i ≠ [] := fun e => by
        have := congrArg List.length e
        rw [List.length_take, len0, List.length_nil] at this
        omega
      rw [errO_of hne]
      rw [badV_none fun j hj => ?_]
      rw [List.length_take, len0] at hj
      have hj2 : j < row.length := by omega
      have hj3 : j < ((row.map V.str).take i).length := by rw [List.length_take, len0]; omega
      have g : ((row.map V.str).take i)[j]? = some (.str row[j]) := by
        rw [List.getElem?_take, if_pos (by omega), List.getElem?_map, List.getElem?_eq_getElem hj2]
        rfl
      unfold badQ
      rw [getDv g]
      have n1 : nmV (.str row[j]) = true := rowok _ (List.getElem_mem hj2)
      have n2 : V.str row[j] ∉ ((row.map V.str).take i).take j := fun m => by
        rw [List.take_take, ← List.map_take, mem_strs] at m
        obtain ⟨t, ht, e⟩ := List.mem_iff_getElem.mp m
        rw [List.length_take] at ht
        rw [List.getElem_take] at e
        have := (List.getElem_inj rownd).mp e
        omega
      rw [n1, decide_eq_false n2, decide_eq_false (by omega)]
      rfl
    have map10 : ((row.map V.str).take 10).map strOf = row.take 10 := by rw [← List.map_take, strs_id]
    have ro10 : RowOk (row.take 10) := by
      obtain ⟨hne, hb⟩ := errO_none (errs 10 (by decide) (by decide))
      have q := (rowOk_of hne hb).2
      rw [map10] at q
      exact q
    have out10 : outO (some ((row.map V.str).take 10)) = [.str "returned", .str (Txt.join " " (row.take 10))] := by
      rw [outO_none (errs 10 (by decide) (by decide))]
      show [V.str "returned", V.str (Txt.join " " (((row.map V.str).take 10).map strOf))] = _
      rw [map10]
    have sg10 : SgOk (Txt.join " " (row.take 10)) := by
      rw [TL.join_eq]
      exact sg_join (sg_ofString _) fun z hz => sg_name (ro10.ok z hz)
    have cut10 : cutV (row.map V.str) none (some (10 : Int)) = (row.map V.str).take 10 := cut_upto _ 10
    have cut1 : cutV (row.map V.str) none (some (1 : Int)) = (row.map V.str).take 1 := cut_upto _ 1
    have jlAll : (row.map (·.length)).sum + row.length * (" " : Str).length ≤ 16777216 := by
      have q : ∀ l : List Str, (∀ z ∈ l, nameOk z = true) → (l.map (·.length)).sum ≤ l.length * 8 := fun l hl => by
        induction l with
        | nil => exact Nat.le_refl _
        | cons z r ih =>
          have a := nameOk_len (hl z List.mem_cons_self)
          have b := ih fun y hy => hl y (List.mem_cons_of_mem _ hy)
          rw [List.map_cons, List.sum_cons, List.length_cons]
          omega
      have q1 := q row rowok
      have e : (" " : Str).length = 1 := rfl
      rw [e]
      omega
    -- the odd values
    refine ⟨by decide, fun t1 n1 => ?_⟩
    obtain ⟨s1, a1⟩ := new2 n1 (o := .tup [])
    generalize upd H3 t1 (.tup []) = K1 at s1 a1 ⊢
    refine ⟨(by show 1 ≤ sizeLine; decide), fun t2 n2 => ?_⟩
    obtain ⟨s2, b2⟩ := new2 n2 (o := .tup [.str "a"])
    generalize upd K1 t2 (.tup [.str "a"]) = K2 at s2 b2 ⊢
    refine ⟨Nat.zero_le _, fun l3 n3 => ?_⟩
    obtain ⟨s3, b3⟩ := new2 n3 (o := .lst [])
    generalize upd K2 l3 (.lst []) = K3 at s3 b3 ⊢
    intro d4 n4
    obtain ⟨s4, b4⟩ := new2 n4 (o := .dK [])
    generalize upd K3 d4 (.dK []) = K4 at s4 b4 ⊢
    have s34 := ((s1.trans s2).trans s3).trans s4
    have hT4 := s34.sqt (K := K) hT
    obtain ⟨z0, rest0, er0⟩ := List.exists_cons_of_ne_nil rne
    have at0 : atI (row.map V.str) 0 = some (.str z0) := by
      rw [er0]
      exact atI_nat (j := 0) rfl
    have m0 : z0 ∈ row := by rw [er0]; exact List.mem_cons_self
    obtain ⟨zl, atl, ml⟩ : ∃ z, atI (row.map V.str) (-1) = some (.str z) ∧ z ∈ row := by
      refine ⟨row.getLast rne, ?_, List.getLast_mem rne⟩
      conv => lhs; rw [← List.dropLast_concat_getLast rne]
      rw [List.map_append]
      exact atI_last _ _
    refine ⟨_, rfl, a2, _, 0, _, rfl, rfl, hT4, at0, ?_⟩
    refine ⟨_, rfl, 1, rfl, a2, _, -1, _, rfl, rfl, hT4, atl, ?_⟩
    refine ⟨(by show 16 ≤ sizeLine; decide), fun L nL => ?_⟩
    obtain ⟨s5, b5⟩ := new2 nL (o := .lst [V.non, V.int 0, V.bl true, V.str "", V.str "A", V.str "1a", V.str "a b", V.str "ninechars", V.ref t1, V.ref t2, V.ref l3, V.ref d4, V.str "a-", V.str z0, V.str zl, V.str "zz0"])
    change tSeq _ _ _ _ (upd K4 L (.lst [V.non, V.int 0, V.bl true, V.str "", V.str "A", V.str "1a", V.str "a b", V.str "ninechars", V.ref t1, V.ref t2, V.ref l3, V.ref d4, V.str "a-", V.str z0, V.str zl, V.str "zz0"]))
    generalize upd K4 L (.lst [V.non, V.int 0, V.bl true, V.str "", V.str "A", V.str "1a", V.str "a b", V.str "ninechars", V.ref t1, V.ref t2, V.ref l3, V.ref d4, V.str "a-", V.str z0, V.str zl, V.str "zz0"]) = H0 at s5 b5 ⊢
    have s05 := s34.trans s5
    have pu0 : Pu H0 p := pu3.same s05
    have odEl : ∀ v ∈ [V.non, V.int 0, V.bl true, V.str "", V.str "A", V.str "1a", V.str "a b", V.str "ninechars", V.ref t1, V.ref t2, V.ref l3, V.ref d4, V.str "a-", V.str z0, V.str zl, V.str "zz0"], El K H0 v := by
      simp only [List.forall_mem_cons, List.not_mem_nil, false_implies, implies_true, and_true]
      exact ⟨.inr (.inl rfl), .inr (.inr (.inl ⟨_, rfl⟩)), .inr (.inr (.inr (.inl ⟨_, rfl⟩))), el_lit _ (by decide +kernel), el_lit _ (by decide +kernel), el_lit _ (by decide +kernel), el_lit _ (by decide +kernel), el_lit _ (by decide +kernel),
        .inr (.inr (.inr (.inr (.inl ⟨t1, _, rfl, tup_of (s5 _ _ (s4 _ _ (s3 _ _ (s2 _ _ a1))))⟩)))), .inr (.inr (.inr (.inr (.inl ⟨t2, _, rfl, tup_of (s5 _ _ (s4 _ _ (s3 _ _ b2)))⟩)))), .inr (.inr (.inr (.inr (.inr ⟨l3, rfl, .inl (s5 _ _ (s4 _ _ b3))⟩)))), .inr (.inr (.inr (.inr (.inr ⟨d4, rfl, .inr (s5 _ _ b4)⟩)))),
        el_lit _ (by decide +kernel), el_name (rowok _ m0), el_name (rowok _ ml), el_lit _ (by decide +kernel)⟩
    have odl : ([V.non, V.int 0, V.bl true, V.str "", V.str "A", V.str "1a", V.str "a b", V.str "ninechars", V.ref t1, V.ref t2, V.ref l3, V.ref d4, V.str "a-", V.str z0, V.str zl, V.str "zz0"]).length = 16 := rfl
    generalize [V.non, V.int 0, V.bl true, V.str "", V.str "A", V.str "1a", V.str "a b", V.str "ninechars", V.ref t1, V.ref t2, V.ref l3, V.ref d4, V.str "a-", V.str z0, V.str zl, V.str "zz0"] = od at b5 odEl odl
    have hT5 : SqT K H0 a2 (row.map V.str) := s5.sqt hT4
    have stH : SameT p H H0 := (SameT.of sb03).trans (.of (.of s05))
    have tb0 : LamX.Tabs (tabsOf T q1 q2) H0 := tabs_same (tabs_pu tb pu sb03) s05
    have Lp : ∀ {H' : Hp}, Frm H0 H' → H' L = some (.lst od) := fun f => f _ _ b5 (fun x y z => by
      have q := congrArg List.length (HO.lst.inj z)
      rw [odl] at q
      exact absurd (show 16 = 2 from q) (by decide)) fun _ z => nomatch z
    have odF : ∀ {H' : Hp}, Frm H0 H' → ∀ v ∈ od, El K H' v := fun f v hv => (odEl v hv).frm f
    refine ⟨4, rfl, by decide, by decide, for_range (lo := 0) (n := 4) (fun i σ H' => ∃ v4 v5 v6 v7 v8 v9 v10 v11 v12, σ = [some (.ref p), some (.ref a), some (.ref a2), some (.ref L), v4, v5, v6, v7, v8, v9, v10, v11, v12] ∧ Std T q1 q2 p H0 H') ⟨none, none, none, none, none, none, none, none, none, rfl, .refl _ _, pu0, tb0⟩ ?_ ?_⟩
    · rintro i σ H' hi ⟨v4, v5, v6, v7, v8, v9, v10, v11, v12, rfl, D0⟩
      have hTH := (D0.frm pu0).sqt hT5
      refine ⟨_, rfl, _, rfl, p, 3, rfl, D0.pu, by decide, by decide, fun nch K5 c0 c1 sbA puA => ?_⟩
      have D1 := D0.but sbA puA
      refine ⟨nch, rfl, by omega, by omega, for_range (lo := 0) (n := nch.toNat) (fun j σ H' => ∃ (b : Addr) (bent : List V) (v5 v6 v7 : Option V), σ = [some (.ref p), some (.ref a), some (.ref a2), some (.ref L), some (.int (0 + (i : Nat))), v5, v6, v7, v8, v9, some (.ref b), v11, v12] ∧ Std T q1 q2 p H0 H' ∧ SqT K H' b bent ∧ bent.length ≤ 12 + j ∧ ∀ x ∈ bent, El K H' x)
        ⟨a2, row.map V.str, v5, v6, v7, rfl, D1, (D1.frm pu0).sqt hT5, (by rw [len0]; omega), fun x hx => dropped row.length x (by rw [List.take_of_length_le (by rw [len0]; exact Nat.le_refl _)]; exact hx)⟩ ?_ ?_⟩
      · rintro j σ H6 hj ⟨b, bent, v5, v6, v7, rfl, D2, hB, lB, eB⟩
        have hj3 : j < 3 := by omega
        refine ⟨_, rfl, _, rfl, b, bent, rfl, .inr hB, _, _, rfl, rfl, p, _, rfl, D2.pu, by omega, by omega, fun at1 H7 e0 e1 sb7 pu7 => ?_⟩
        refine ⟨_, rfl, p, 2, rfl, pu7, by decide, by decide, fun way H8 w0 w1 sb8 pu8 => ?_⟩
        have D3 := (D2.but sb7 pu7).but sb8 pu8
        have f68 := (frm_but sb7 D2.pu).trans (frm_but sb8 pu7)
        refine ⟨_, _, rfl, ?_⟩
        refine ⟨_, rfl, _, rfl, _, rfl, slA_of (f68.sqt hB) fun x1 H9 s9 hx1 => ?_⟩
        have D4 := D3.same s9
        refine ⟨_, rfl, _, rfl, p, 16, rfl, D4.pu, by decide, by decide, fun d H10 d0 d1 sb10 pu10 => ?_⟩
        have D5 := D4.but sb10 pu10
        obtain ⟨c, ac, mc⟩ := at_in (l := od) d0 (by rw [odl]; exact d1)
        refine ⟨L, od, d, c, rfl, rfl, lst_of (Lp (D5.frm pu0)), ac, ?_⟩
        refine ⟨(by show 1 ≤ sizeLine; decide), fun x2 n2 => ?_⟩
        obtain ⟨s11, a11⟩ := new2 n2 (o := .tup [c])
        generalize upd H10 x2 (.tup [c]) = H11 at s11 a11 ⊢
        have D6 := D5.same s11
        have hx1' := s11.sqt ((frm_but sb10 D4.pu).sqt hx1)
        have c1 := cutV_length bent none (some at1)
        refine catA_of hx1' (tup_of a11) (by simp only [List.length_cons, List.length_nil]; omega) fun x3 H12 s12 hx3 => ?_
        have D7 := D6.same s12
        have f12 := (((f68.trans (.of s9)).trans (frm_but sb10 D4.pu)).trans (.of s11)).trans (.of s12)
        refine ⟨_, rfl, _, rfl, _, rfl, _, _, rfl, rfl, _, rfl, ?_⟩
        refine no_part ?_
        refine slA_of (f12.sqt hB) fun x4 H13 s13 hx4 => ?_
        have D8 := D7.same s13
        have c2 := cutV_length bent (some (at1 + way)) none
        refine catA_of (s13.sqt hx3) hx4 (by simp only [List.length_append, List.length_cons, List.length_nil]; omega) fun x5 H14 s14 hx5 => ?_
        have D9 := D8.same s14
        have f14 := (f12.trans (.of s13)).trans (.of s14)
        refine ⟨x5, _, _, _, _, rfl, D9, hx5, ?_, fun x hx => ?_⟩
        · have q1 : ∀ (z : Int), 0 ≤ z → (cutV bent none (some z)).length = min z.toNat bent.length := fun z hz => by
            obtain ⟨n, rfl⟩ := Int.eq_ofNat_of_zero_le hz
            rw [cut_upto, List.length_take]
            rfl
          have q2 : ∀ (z : Int), 0 ≤ z → (cutV bent (some z) none).length = bent.length - z.toNat := fun z hz => by
            obtain ⟨n, rfl⟩ := Int.eq_ofNat_of_zero_le hz
            rw [cut_from, List.length_drop]
            rfl
          have q3 := q1 at1 e0
          have q4 := q2 (at1 + way) (by omega)
          simp only [List.length_append, List.length_cons, List.length_nil]
          omega
        · rcases List.mem_append.mp hx with hx | hx
          · rcases List.mem_append.mp hx with hx | hx
            · exact (eB x (cutV_mem hx)).frm f14
            · rw [List.mem_singleton.mp hx]
              exact odF (D9.frm pu0) c mc
          · exact (eB x (cutV_mem hx)).frm f14
      · rintro σ H6 ⟨b, bent, v5, v6, v7, rfl, D2, hB, lB, eB⟩
        have lB2 : bent.length ≤ 1000 := by omega
        have avB : ∀ {H' : Hp}, Frm H6 H' → Av K T.C H' (.ref b) (some bent) := fun f => ⟨b, rfl, f.sqt hB, lB2, fun x hx => (eB x hx).frm f⟩
        refine ⟨_, rfl, .ref b, some bent, rfl, avB (.of (Same.refl _)), D2.tb, fun q H7 e7 t7 hq => ?_⟩
        have D3 := D2.ext e7 t7
        have f7 := frm_extN e7
        refine ⟨_, rfl, due_ok T (avB f7) hq fun H8 s8 => ?_⟩
        have D4 := D3.same s8
        have f8 := f7.trans (.of s8)
        refine ⟨_, rfl, iteF ?_⟩
        refine ⟨D4.tb, fun H9 e9 t9 => ?_⟩
        have f9 := f8.trans (frm_extN e9)
        refine told_make T (avB f9) t9 (fun E R' h => ⟨_, rfl, rfl, rfl, h⟩) fun qb H10 e10 t10 hqb => ?_
        have D5 := (D4.ext e9 t9).ext e10 t10
        have f10 := f9.trans (frm_extN e10)
        refine ⟨_, rfl, due_ok T (avB f10) hqb fun H11 s11 => ?_⟩
        have D6 := D5.same s11
        refine ⟨_, rfl, iteF ?_⟩
        refine ⟨_, rfl, 10, rfl, slA_of ((D6.frm pu0).sqt hT5) fun x1 H12 s12 hx1 => ?_⟩
        rw [cut10] at hx1
        have D7 := D6.same s12
        refine ⟨.ref x1, some ((row.map V.str).take 10), rfl, rowav 10 hx1, D7.tb, fun q3 H13 e13 t13 hq3 => ?_⟩
        rw [out10] at hq3
        have D8 := D7.ext e13 t13
        refine ⟨⟨_, rfl⟩, _, rfl, 10, rfl, slA_of ((D8.frm pu0).sqt hT5) fun x2 H14 s14 hx2 => ?_⟩
        rw [cut10, ← List.map_take] at hx2
        have D9 := D8.same s14
        refine ⟨_, x2, row.take 10, rfl, rfl, .inr hx2, join_le ro10, (by show 2 ≤ sizeLine; decide), fun t1 m1 => ?_⟩
        have D10 := D9.same (Same.new m1 (o := .tup [.str "returned", .str (Txt.join " " (row.take 10))]))
        refine ne_two (sg_ofString _) sg10 ((Same.new m1) _ _ (s14 _ _ hq3)) upd_same ?_
        refine ⟨_, rfl, iteF ?_⟩
        generalize upd H14 t1 (.tup [.str "returned", .str (Txt.join " " (row.take 10))]) = H15 at D10 ⊢
        refine ⟨3, rfl, by decide, by decide, fun D nD => ?_⟩
        have nDp : D ≠ p := fun e => by
          obtain ⟨x, y, hp, _⟩ := D10.pu
          rw [← e, nD] at hp
          cases hp
        refine lc_range (lo := 0) (n := 3) (fun j H' => Std T q1 q2 p H0 H' ∧ ∃ ws, H' D = some (.lst ws) ∧ ws.length = j ∧ ∀ x ∈ ws, x ∈ od) ⟨D10.same (Same.new nD), [], upd_same, rfl, nofun⟩ ?_ ?_
        · rintro j Ha hj ⟨Da, ws, hw, lw, ew⟩
          refine ⟨rfl, ?_⟩
          refine ⟨_, rfl, _, rfl, p, 16, rfl, Da.pu, by decide, by decide, fun d Hb d0 d1 sbb pub => ?_⟩
          have Db := Da.but sbb pub
          obtain ⟨c, ac, mc⟩ := at_in (l := od) d0 (by rw [odl]; exact d1)
          have hw2 := sbb _ _ nDp hw
          refine ⟨L, od, d, c, rfl, rfl, lst_of (Lp (Db.frm pu0)), ac, ws, hw2, lt_line (by omega), ⟨fun b o n e t => ?_, ?_, ?_⟩, _, upd_same, by rw [List.length_append, lw]; rfl, fun x hx => ?_⟩
          · have h1 := D10.st b o n e t
            rw [upd_ne (ne_of_none h1 nD)]
            exact Db.st b o n e t
          · obtain ⟨x, y, hp, hh⟩ := Db.pu
            exact ⟨x, y, by rw [upd_ne nDp.symm]; exact hp, hh⟩
          · exact tabs_but Db.tb hw2 (fun _ z => nomatch z) (fun _ _ z => nomatch z) fun b o n e => by rw [upd_ne n]; exact e
          · rcases List.mem_append.mp hx with hx | hx
            · exact ew x hx
            · rw [List.mem_singleton.mp hx]
              exact mc
        · rintro Hc ⟨Dc, ws, hw, lw, ew⟩
          obtain ⟨w0, w1, w2, rfl⟩ : ∃ a b c, ws = [a, b, c] := by
            match ws, lw with
            | [a, b, c], _ => exact ⟨a, b, c, rfl⟩
          refine ⟨Dc.tb, fun Hd ed td => ?_⟩
          have Dd := Dc.ext ed td
          have hwd := ed _ _ hw (fun _ z => nomatch z)
          have eld : ∀ {H' : Hp}, Frm H0 H' → ∀ x ∈ [w0, w1, w2], El K H' x := fun f x hx => odF f x (ew x hx)
          refine told_of T (rest := [w0, w1, w2]) (G := fun R' x H2 => rStrO T.C (spStr K T.C) E0 [x] H2 R') (eld (Dd.frm pu0)) (by show 3 ≤ 11; decide) td (fun R' x H2 _ rk h => rk_str rk h)
            (fun E R' h => ⟨rfl, _, rfl, D, _, 0, _, rfl, rfl, lst_of hwd, atI_nat (j := 0) rfl, _, rfl, D, _, 1, _, rfl, rfl, lst_of hwd, atI_nat (j := 1) rfl, _, rfl, D, _, 2, _, rfl, rfl, lst_of hwd, atI_nat (j := 2) rfl, _, _, rfl, (by show 3 ≤ 11; decide), h⟩) fun q4 He ee te hq4 => ?_
          have De := Dd.ext ee te
          have hwe := ee _ _ hwd (fun _ z => nomatch z)
          refine ⟨_, rfl, D, _, rfl, .inl ⟨lst_of hwe, fun u ou nu od' => ?_⟩⟩
          have sU := Same.new nu (o := .frz ou (.tup [w0, w1, w2]))
          have Df := De.same sU
          refine due_ok T (v := .ref u) (o := some [w0, w1, w2]) ⟨u, rfl, frz_of upd_same, (by show 3 ≤ 1000; decide), eld (Df.frm pu0)⟩ (sU _ _ hq4) fun Hf sf => ?_
          exact ⟨_, rfl, iteF ⟨_, _, _, _, _, _, _, _, _, rfl, Df.same sf⟩⟩
    · rintro σ H' ⟨v4, v5, v6, v7, v8, v9, v10, v11, v12, rfl, D0⟩
      have hTH := (D0.frm pu0).sqt hT5
      refine ⟨by decide, fun u1 m1 => ?_⟩
      obtain ⟨r1, h1⟩ := new2 m1 (o := .tup [])
      generalize upd H' u1 (.tup []) = G1 at r1 h1 ⊢
      refine ⟨_, rfl, a2, _, rfl, .inr (r1.sqt hTH), fun u2 m2 => ?_⟩
      obtain ⟨r2, h2⟩ := new2 m2 (o := .lst (row.map V.str))
      generalize upd G1 u2 (.lst (row.map V.str)) = G2 at r2 h2 ⊢
      refine ⟨⟨_, rfl⟩, _, rfl, _, a2, row, rfl, rfl, .inr (r2.sqt (r1.sqt hTH)), jlAll, ?_⟩
      intro u3 m3
      obtain ⟨r3, h3⟩ := new2 m3 (o := .dK [])
      generalize upd G2 u3 (.dK []) = G3 at r3 h3 ⊢
      refine ⟨_, rfl, 1, rfl, slA_of (r3.sqt (r2.sqt (r1.sqt hTH))) fun u4 G4 r4 h4 => ?_⟩
      rw [cut1] at h4
      have r04 := ((r1.trans r2).trans r3).trans r4
      refine make_ofA (o := some ((row.map V.str).take 1)) (rowav 1 h4) (fun row' eo he y G5 r5 rk => ?_) (fun ix he => absurd (he.symm.trans (errs 1 (by decide) (by decide))) nofun)
      obtain ⟨dx, tt, ts, th, hy, _⟩ := rk
      refine ⟨_, rfl, (by show 1 ≤ sizeLine; decide), fun u6 m6 => ?_⟩
      obtain ⟨r6, h6⟩ := new2 m6 (o := .tup [V.ref a2])
      generalize upd G5 u6 (.tup [V.ref a2]) = G6 at r6 h6 ⊢
      refine ⟨_, rfl, (by show 10 ≤ sizeLine; decide), fun Z nZ => ?_⟩
      obtain ⟨r7, h7⟩ := new2 nZ (o := .lst [V.non, V.ref u1, V.ref u2, V.str (Txt.join " " row), V.ref u3, V.int 0, V.bl true, V.ref y, V.ref u6, V.ref a2])
      generalize upd G6 Z (.lst [V.non, V.ref u1, V.ref u2, V.str (Txt.join " " row), V.ref u3, V.int 0, V.bl true, V.ref y, V.ref u6, V.ref a2]) = G7 at r7 h7 ⊢
      have r47 := (r4.trans r5).trans (r6.trans r7)
      have r37 := r3.trans r47
      have r27 := r2.trans r37
      have r07 := r1.trans r27
      have D7 := D0.same r07
      have hT7 : SqT K G7 a2 (row.map V.str) := r07.sqt hTH
      have avAll : ∀ v ∈ [V.non, V.ref u1, V.ref u2, V.str (Txt.join " " row), V.ref u3, V.int 0, V.bl true, V.ref y, V.ref u6, V.ref a2], ∃ o, Av K T.C G7 v o := by
        simp only [List.forall_mem_cons, List.not_mem_nil, false_implies, implies_true, and_true]
        refine ⟨⟨none, .inl rfl⟩, ⟨some [], u1, rfl, tup_of (r27 _ _ h1), Nat.zero_le _, nofun⟩, ⟨none, .inr (.inr (.inr (.inr (.inl ⟨u2, row, rfl, r37 _ _ h2⟩))))⟩, ⟨none, .inr (.inr (.inr (.inl ⟨_, rfl⟩)))⟩, ⟨none, .inr (.inr (.inr (.inr (.inr (.inl ⟨u3, rfl, r47 _ _ h3⟩)))))⟩,
          ⟨none, .inr (.inl ⟨_, rfl⟩)⟩, ⟨none, .inr (.inr (.inl ⟨_, rfl⟩))⟩, ⟨none, .inr (.inr (.inr (.inr (.inr (.inr ⟨y, dx, _, rfl, r7 _ _ (r6 _ _ hy)⟩)))))⟩, ⟨some [V.ref a2], u6, rfl, tup_of (r7 _ _ h6), by show 1 ≤ 1000; decide, fun x hx => ?_⟩, ⟨some ((row.map V.str).take row.length), ?_⟩⟩
        · rw [List.mem_singleton.mp hx]
          exact .inr (.inr (.inr (.inr (.inl ⟨a2, _, rfl, hT7⟩))))
        · refine rowav row.length ?_
          rw [List.take_of_length_le (by rw [len0]; exact Nat.le_refl _)]
          exact hT7
      generalize [V.non, V.ref u1, V.ref u2, V.str (Txt.join " " row), V.ref u3, V.int 0, V.bl true, V.ref y, V.ref u6, V.ref a2] = zs at h7 avAll
      refine ⟨Z, rfl, ⟨_, lst_of h7⟩, for_list (K := K) (a := Z) (xs := zs) (fun j σ H' => ∃ v8, σ = [some (.ref p), some (.ref a), some (.ref a2), some (.ref L), v4, v5, v6, v7, v8, v9, v10, v11, v12] ∧ Std T q1 q2 p H0 H' ∧ LamX.ExtN G7 H')
        ⟨_, rfl, D7, .refl _⟩ (fun j σ H' _ ⟨_, _, _, ex⟩ => lst_of (ex _ _ h7 fun _ z => nomatch z)) ?_ ?_⟩
      · rintro j x σ Ha hx ⟨v8, rfl, Da, exa⟩
        obtain ⟨o, av0⟩ := avAll x (List.mem_of_getElem? hx)
        have ava := av0.frm (frm_extN exa)
        refine ⟨_, rfl, x, o, rfl, ava, Da.tb, fun qc Hb eb tb' hqc => ?_⟩
        refine ⟨_, rfl, due_ok T (ava.frm (frm_extN eb)) hqc fun Hc sc => ?_⟩
        exact ⟨_, rfl, iteF ⟨_, rfl, (Da.ext eb tb').same sc, (exa.trans eb).trans (extN_of sc)⟩⟩
      · rintro σ Ha ⟨v8, rfl, Da, exa⟩
        have e11 : errO (some [V.str "k", V.str "j", V.str "i", V.str "h", V.str "g", V.str "f", V.str "e", V.str "d", V.str "c", V.str "b", V.str "a"]) = some (.int 10) := by decide +kernel
        have e10 : ixTxt (.int 10) = "10" := by decide +kernel
        refine ⟨Da.tb, fun Hb eb tb' => ?_⟩
        refine told_of T (rest := [V.str "k", V.str "j", V.str "i", V.str "h", V.str "g", V.str "f", V.str "e", V.str "d", V.str "c", V.str "b", V.str "a"]) (G := fun R' => R') (by
            simp only [List.forall_mem_cons, List.not_mem_nil, false_implies, implies_true, and_true]
            exact ⟨el_lit _ (by decide +kernel), el_lit _ (by decide +kernel), el_lit _ (by decide +kernel), el_lit _ (by decide +kernel), el_lit _ (by decide +kernel), el_lit _ (by decide +kernel), el_lit _ (by decide +kernel), el_lit _ (by decide +kernel), el_lit _ (by decide +kernel), el_lit _ (by decide +kernel), el_lit _ (by decide +kernel)⟩)
          (by show 11 ≤ 11; decide) tb' (fun R' x H2 he _ _ => absurd (he.symm.trans e11) nofun) (fun E R' h => ⟨rfl, _, _, rfl, (by show 11 ≤ 11; decide), h⟩) fun qc Hc ec tc hqc => ?_
        rw [outO_some e11, e10] at hqc
        have Dc := (Da.ext eb tb').ext ec tc
        refine ⟨_, rfl, (by show 2 ≤ sizeLine; decide), fun x1 n1 => ?_⟩
        refine eq_two (sg_ofString _) (sg_ofString _) ((Same.new n1) _ _ hqc) upd_same ?_
        have Dd := Dc.same (Same.new n1 (o := .tup [.str "InvalidRow", .str "10"]))
        generalize upd Hc x1 (.tup [.str "InvalidRow", .str "10"]) = Hd at Dd ⊢
        refine ⟨true, rfl, iteT ?_⟩
        refine ⟨Dd.tb, fun He ee te => ?_⟩
        refine told_of T (rest := []) (G := fun R' => R') nofun (by decide) te (fun R' x H2 he _ _ => nomatch he) (fun E R' h => ⟨rfl, _, _, rfl, (by decide), h⟩) fun qd Hf ef tf hqd => ?_
        have eN : outO (some []) = [.str "InvalidRow", .str "None"] := rfl
        rw [eN] at hqd
        have Df := (Dd.ext ee te).ext ef tf
        refine ⟨(by show 2 ≤ sizeLine; decide), fun x2 n2 => ?_⟩
        refine eq_two (sg_ofString _) (sg_ofString _) ((Same.new n2) _ _ hqd) upd_same ?_
        have Dg := Df.same (Same.new n2 (o := .tup [.str "InvalidRow", .str "None"]))
        exact k _ (stH.trans Dg.st) Dg.tb
theorem g_l_right (T : Tx K mg) (TB : TBs T base) : FnG P w K mg base 11 T.a_l_right (spRight T "_law_made" "_law_right") := g_l_right_q T TB T.M_l_made T.M_l_right
end
end MH
namespace MH
open PySem PySem.Spec PyProof.Rows L2
theorem _root_.L2.Same.sql {K : PySem.W.Frag} {H H' : Hp} {a : Addr} {xs : List V} (e : Same H H') (h : SqL K H a xs) : SqL K H' a xs := by
  rcases h with (h | ⟨o, h⟩) | h
  · exact .inl (.inl (e _ _ h))
  · exact .inl (.inr ⟨o, e _ _ h⟩)
  · exact .inr h
def qsLaw : List Str := [(("_law_made" : Str) ++ ".<locals>.") ++ "<lambda>", (("_law_right" : Str) ++ ".<locals>.") ++ "<lambda>"]
def spLaw (TS : List Addr) (K : PySem.W.Frag) : Sp := fun vs H Q _ => ∃ (a : Addr) (ns : List Int), vs = [.ref a] ∧ SqL K H a (ns.map V.int) ∧ ns.length ≤ 63 ∧ LamX.Tabs (TS.zip qsLaw) H ∧ ∀ H', Q (.bl true) H'
section
variable {P : Program} {w : World} {K : PySem.W.Frag} {mg : Str → Option Value} {base : Heap}
theorem g_law (T : Tx K mg) (TB : TBs T base) : FnG P w K mg base 12 T.a_law (spLaw [T.P_l_made, T.P_l_right] K) := by
  refine fun_g T.F_law sc_law T.b_law (fun vs H Q E h => ?_) (fun cdv A fr s H vs Q hg hr h => ?_)
  · obtain ⟨a, ns, rfl, _⟩ := h
    rfl
  · obtain ⟨a, ns, rfl, hS, hlen, tb, k⟩ := h
    refine ⟨_, (pss_one (ps_ret (pe_callB (cr_all rfl) (by rfl) T.n_all (by decide +kernel) (pa_cons (pe_lc (own := [("_law_spot", 1)]) (g := gName 1) (tt := tYes) rfl sc_law.nd (pi_range1 (by rfl) T.n_range (pa_cons (pe_callB (call_max2 rfl) (by rfl) T.n_max (by decide +kernel) (pa_cons pe_int (pa_cons (pe_callB (call_min2 rfl) (by rfl) T.n_min (by decide +kernel) (pa_cons (pe_callB call_len_seq (by rfl) T.n_len (by decide +kernel) (pa_cons (pv 0) pa_nil)) (pa_cons pe_int pa_nil))) pa_nil))) pa_nil)) (blkOk_by (own := [("_law_spot", 1)]) (N := names_law) (sc := defScope st_law) (by decide +kernel)) (fun _ _ _ _ _ => pg_name (i := 1) sc_law.nd rfl (Or.inl rfl)) (fun _ _ _ _ _ => pts_nil) (fun _ _ _ _ _ => (pe_callg (g_l_right T TB) hg (hr.mono (by decide)) rfl T.g_l_right T.F_l_right.kp (pa_cons (pe_call (ok_l_purse T) (hr.mono (by decide)) rfl T.g_l_purse T.F_l_purse.kp T.b_l_purse .nil pass0 (pa_cons (pv 0) (pa_cons (pv 1) pa_nil))) pa_nil)))) pa_nil)))), ?_⟩
    have tb : LamX.Tabs (tabsOf T "_law_made" "_law_right") H := tb
    have hl : (ns.map V.int).length = ns.length := List.length_map _
    refine ⟨_, rfl, a, _, rfl, .inl hS, _, _, rfl, _, _, rfl, _, rfl, ?_, ?_, fun D nD => lc_range (lo := 0) (n := _) (fun i H' => LamX.ExtN H H' ∧ LamX.Tabs (tabsOf T "_law_made" "_law_right") H' ∧ H' D = some (.lst (List.replicate i (V.bl true)))) ⟨extN_new nD, tabs_same tb (Same.new nD), upd_same⟩ ?_ ?_⟩
    · omega
    · omega
    · rintro i H1 hi ⟨s1, t1, e1⟩
      have hi : i < 100 := by omega
      refine ⟨rfl, ?_⟩
      rw [show (0 : Int) + (i : Int) = ((i : Nat) : Int) from Int.zero_add _]
      refine ⟨_, rfl, _, rfl, a, ns, i, rfl, extN_sql s1 hS, hlen, by omega, fun H2 p s2 np pu => ⟨p, rfl, pu, tabs_same t1 s2, fun H3 sb t3 => ?_⟩⟩
      have nDp : D ≠ p := fun e => by
        rw [e, np] at e1
        cases e1
      have e3 := sb _ _ nDp (s2 _ _ e1) (fun _ z => nomatch z)
      refine ⟨_, e3, lt_line (by rw [List.length_replicate]; omega), fun b o e ht => ?_, ?_, ?_⟩
      · rw [upd_ne (ne_of_none e nD)]
        have h1 := s1 _ _ e ht
        exact sb _ _ (ne_of_none h1 np) (s2 _ _ h1) ht
      · exact tabs_but t3 e3 (fun _ z => nomatch z) (fun _ _ z => nomatch z) fun b o n e => by rw [upd_ne n]; exact e
      · rw [upd_same, List.replicate_succ']
    · rintro H1 ⟨s1, t1, e1⟩
      refine ⟨D, List.replicate _ true, rfl, lst_of (by rw [e1, List.map_replicate]), ?_⟩
      have e : ∀ n : Nat, (List.replicate n true).all id = true := fun n => List.all_eq_true.mpr fun b hb => List.eq_of_mem_replicate hb
      rw [e]
      exact k _
end
theorem walk0 {l : PySem.W.OpenLaw} {q : Program} {loose : List Str} {XP : (Str → Option Value) → Heap → Prop} {as : List Addr} {K : Params → PySem.W.Frag} {e : ∀ P, as = (K P).map (·.1)} {ts : List Addr} {d : DefRec}
    (hn : l.most = some 63) (hdf : d.params.defaults = []) (hd : d.name = "law")
    (F : ∀ (w : World) (mg : Str → Option Value) (fa : Addr) (h : Heap), (K w.params).In h → h.Ns mainGlobals mg → mg "law" = some (.ref fa) → ∃ T : Tx (K w.params) mg, T.a_law = fa ∧ T.P_l_made ∈ ts ∧ T.P_l_right ∈ ts) : PySem.W.WalkO q loose XP (PySem.W.kmHook K as e ts).says l.row.toRowW d [] (fun f vs => PySem.call f vs) := by
  refine walk_tL (sp := spLaw) (k := 12) hn (by decide) hdf ⟨rfl, by decide, by decide⟩ (fun w h Y => PySem.W.km_in_of Y) (fun w mg fa h Y KX G hmg => ?_) fun TS K H a ns hl hH hS => ⟨a, ns, rfl, hS, hl, fun x hx => ?_, fun _ => rfl⟩
  · rw [hd] at hmg
    obtain ⟨T, rfl, hP1, hP2⟩ := F w mg fa h KX G hmg
    refine ⟨[(T.c_l_made, T.P_l_made), (T.c_l_right, T.P_l_right)], ?_, ?_, ?_, fun base _ _ TB => g_law T ⟨TB _ List.mem_cons_self, TB _ (List.mem_cons_of_mem _ List.mem_cons_self)⟩⟩
    · intro x hx
      rcases List.mem_cons.mp hx with rfl | hx
      · exact PySem.W.km_tabs_of Y _ hP1
      · rw [List.mem_singleton.mp hx]
        exact PySem.W.km_tabs_of Y _ hP2
    · intro x hx
      rcases List.mem_cons.mp hx with rfl | hx
      · exact T.tn_l_made
      · rw [List.mem_singleton.mp hx]
        exact T.tn_l_right
    · intro x hx
      rcases List.mem_cons.mp hx with rfl | hx
      · exact PySem.W.codeHd_of_K KX T.th_l_made
      · rw [List.mem_singleton.mp hx]
        exact PySem.W.codeHd_of_K KX T.th_l_right
  · exact LamX.TabS.nil (hH _ (List.of_mem_zip hx).1)
end MH
open PySem PySem.W PyProof.Rows in
set_option maxRecDepth 100000 in
set_option maxHeartbeats 0 in
theorem PySem.Challenge.cw_menuhouses_k03_rankings_refused_holds : PySem.Challenge.rw_menuhouses_k03_rankings_refused.Holds := by
  w_on; o_law; k_head; (case hw => w_witness2)
  k_fill
  refine MH.walk0 (l := PySem.Challenge.rw_menuhouses_k03_rankings_refused) rfl rfl rfl ?F
  case F =>
    intro w mg fa h KX G hmg
    refine' MH.tx_of KX G hmg ?eg_WrongValue ?eg_InvalidText ?eg_InvalidIndex ?eg_NotARanking ?eg_NotAHouse ?eg_OtherThings ?eg_InvalidRow ?eg_InvalidMenu ?eg_InvalidRankings ?eg_WrongName ?eg_UnknownThing ?eg_NoAnswer ?eg_TooMany ?eg_NoHouse ?xl_InvalidRow ?xr_InvalidRow ?xs_InvalidRow ?xx_InvalidRow ?xt_InvalidRow ?xk_InvalidRow ?xn_InvalidRow ?xga_InvalidRow ?xgg_InvalidRow ?xhd_InvalidRow ?xcl_InvalidRow ?xca_InvalidRow ?xcb_InvalidRow ?xcc_InvalidRow ?xob_InvalidRow ?xem_InvalidRow ?kf_InvalidRow_WrongValue ?kf_InvalidRow_InvalidText ?kf_InvalidRow_InvalidIndex ?kf_InvalidRow_NotARanking ?kf_InvalidRow_NotAHouse ?kf_InvalidRow_OtherThings ?kf_InvalidRow_InvalidRow ?kf_InvalidRow_InvalidMenu ?kf_InvalidRow_InvalidRankings ?kf_InvalidRow_WrongName ?kf_InvalidRow_UnknownThing ?kf_InvalidRow_NoAnswer ?kf_InvalidRow_TooMany ?kf_InvalidRow_NoHouse ?cg_Ranking ?cp_Ranking ?ch_Ranking ?co_Ranking ?cs_Ranking ?cm_Ranking ?ck_Ranking ?cne_Ranking ?cob_Ranking ?cca_Ranking ?ccb_Ranking ?ccc_Ranking ?cki_Ranking_tuple ?cbo_Ranking ?cfm_Ranking ?crd_Ranking ?cty_Ranking ?cga_Ranking ?cn_Ranking__row ?cn_Ranking__things ?a_is_name ?l_is_name ?c_is_name ?k_is_name ?a_is_filled_tuple ?l_is_filled_tuple ?c_is_filled_tuple ?k_is_filled_tuple ?a_first_wrong_in_row ?l_first_wrong_in_row ?c_first_wrong_in_row ?k_first_wrong_in_row ?a_check_row ?l_check_row ?c_check_row ?k_check_row ?a_RankingD_initD ?i_RankingD_initD ?l_RankingD_initD ?c_RankingD_initD ?k_RankingD_initD ?a_Ranking_of ?pr_Ranking_of ?fi_Ranking_of ?l_Ranking_of ?c_Ranking_of ?k_Ranking_of ?a_RankingD_strD ?i_RankingD_strD ?l_RankingD_strD ?c_RankingD_strD ?k_RankingD_strD ?a_InvalidRowD_initD ?ti_InvalidRowD_initD ?l_InvalidRowD_initD ?c_InvalidRowD_initD ?k_InvalidRowD_initD ?a_l_purse ?l_l_purse ?c_l_purse ?k_l_purse ?a_l_draw ?l_l_draw ?c_l_draw ?k_l_draw ?a_l_things ?l_l_things ?c_l_things ?k_l_things ?a_l_order ?l_l_order ?c_l_order ?k_l_order ?a_l_sort ?l_l_sort ?c_l_sort ?k_l_sort ?a_l_attribute ?l_l_attribute ?c_l_attribute ?k_l_attribute ?a_l_told ?l_l_told ?c_l_told ?k_l_told ?a_l_is_name ?l_l_is_name ?c_l_is_name ?k_l_is_name ?a_l_wrong ?l_l_wrong ?c_l_wrong ?k_l_wrong ?a_l_due ?l_l_due ?c_l_due ?k_l_due ?a_l_made ?l_l_made ?c_l_made ?tb_l_made ?tp_l_made ?tn_l_made ?th_l_made ?k_l_made ?a_l_right ?l_l_right ?c_l_right ?tb_l_right ?tp_l_right ?tn_l_right ?th_l_right ?k_l_right ?a_law ?l_law ?c_law ?k_law ?pin_l_made ?pin_l_right ?pne_l_made_l_right ?v_MOST_THINGS ?v_LETTERS ?v_DIGITS ?v_LONGEST_NAME ?z_len ?z_isinstance ?z_all ?z_enumerate ?z_tuple ?z_sorted ?z_abs ?z_int ?z_divmod ?z_range ?z_list ?z_repr ?z_max ?z_min ?z_str
    (case eg_WrongValue => k_is)
    (case eg_InvalidText => k_is)
    (case eg_InvalidIndex => k_is)
    (case eg_NotARanking => k_is)
    (case eg_NotAHouse => k_is)
    (case eg_OtherThings => k_is)
    (case eg_InvalidRow => k_is)
    (case eg_InvalidMenu => k_is)
    (case eg_InvalidRankings => k_is)
    (case eg_WrongName => k_is)
    (case eg_UnknownThing => k_is)
    (case eg_NoAnswer => k_is)
    (case eg_TooMany => k_is)
    (case eg_NoHouse => k_is)
    (case xl_InvalidRow => first | k_is | rfl)
    (case xr_InvalidRow => first | k_is | rfl)
    (case xs_InvalidRow => first | k_is | rfl)
    (case xx_InvalidRow => first | k_is | rfl)
    (case xt_InvalidRow => first | k_is | rfl)
    (case xk_InvalidRow => first | k_is | rfl)
    (case xn_InvalidRow => first | k_is | rfl)
    (case xga_InvalidRow => first | k_is | rfl)
    (case xgg_InvalidRow => first | k_is | rfl)
    (case xhd_InvalidRow => first | k_is | rfl)
    (case xcl_InvalidRow => first | k_is | rfl)
    (case xca_InvalidRow => first | k_is | rfl)
    (case xcb_InvalidRow => first | k_is | rfl)
    (case xcc_InvalidRow => first | k_is | rfl)
    (case xob_InvalidRow => first | k_is | rfl)
    (case xem_InvalidRow => first | k_is | rfl)
    (case kf_InvalidRow_WrongValue => first | k_is | rfl)
    (case kf_InvalidRow_InvalidText => first | k_is | rfl)
    (case kf_InvalidRow_InvalidIndex => first | k_is | rfl)
    (case kf_InvalidRow_NotARanking => first | k_is | rfl)
    (case kf_InvalidRow_NotAHouse => first | k_is | rfl)
    (case kf_InvalidRow_OtherThings => first | k_is | rfl)
    (case kf_InvalidRow_InvalidRow => first | k_is | rfl)
    (case kf_InvalidRow_InvalidMenu => first | k_is | rfl)
    (case kf_InvalidRow_InvalidRankings => first | k_is | rfl)
    (case kf_InvalidRow_WrongName => first | k_is | rfl)
    (case kf_InvalidRow_UnknownThing => first | k_is | rfl)
    (case kf_InvalidRow_NoAnswer => first | k_is | rfl)
    (case kf_InvalidRow_TooMany => first | k_is | rfl)
    (case kf_InvalidRow_NoHouse => first | k_is | rfl)
    (case cg_Ranking => k_is)
    (case cp_Ranking => k_is)
    (case ch_Ranking => k_is)
    (case co_Ranking => k_is)
    (case cs_Ranking => k_is)
    (case cm_Ranking => k_is)
    (case ck_Ranking => k_is)
    (case cne_Ranking => k_is)
    (case cob_Ranking => k_is)
    (case cca_Ranking => k_is)
    (case ccb_Ranking => k_is)
    (case ccc_Ranking => k_is)
    (case cki_Ranking_tuple => first | k_is | rfl)
    (case cbo_Ranking => k_is)
    (case cfm_Ranking => k_is)
    (case crd_Ranking => k_is)
    (case cty_Ranking => k_is)
    (case cga_Ranking => k_is)
    (case cn_Ranking__row => k_is)
    (case cn_Ranking__things => k_is)
    (case a_is_name => k_is)
    (case l_is_name => k_is)
    (case c_is_name => k_is)
    (case k_is_name => k_is)
    (case a_is_filled_tuple => k_is)
    (case l_is_filled_tuple => k_is)
    (case c_is_filled_tuple => k_is)
    (case k_is_filled_tuple => k_is)
    (case a_first_wrong_in_row => k_is)
    (case l_first_wrong_in_row => k_is)
    (case c_first_wrong_in_row => k_is)
    (case k_first_wrong_in_row => k_is)
    (case a_check_row => k_is)
    (case l_check_row => k_is)
    (case c_check_row => k_is)
    (case k_check_row => k_is)
    (case a_RankingD_initD => k_is)
    (case i_RankingD_initD => k_is)
    (case l_RankingD_initD => k_is)
    (case c_RankingD_initD => k_is)
    (case k_RankingD_initD => k_is)
    (case a_Ranking_of => k_is)
    (case pr_Ranking_of => k_is)
    (case fi_Ranking_of => k_is)
    (case l_Ranking_of => k_is)
    (case c_Ranking_of => k_is)
    (case k_Ranking_of => k_is)
    (case a_RankingD_strD => k_is)
    (case i_RankingD_strD => k_is)
    (case l_RankingD_strD => k_is)
    (case c_RankingD_strD => k_is)
    (case k_RankingD_strD => k_is)
    (case a_InvalidRowD_initD => k_is)
    (case ti_InvalidRowD_initD => k_is)
    (case l_InvalidRowD_initD => k_is)
    (case c_InvalidRowD_initD => k_is)
    (case k_InvalidRowD_initD => k_is)
    (case a_l_purse => k_is)
    (case l_l_purse => k_is)
    (case c_l_purse => k_is)
    (case k_l_purse => k_is)
    (case a_l_draw => k_is)
    (case l_l_draw => k_is)
    (case c_l_draw => k_is)
    (case k_l_draw => k_is)
    (case a_l_things => k_is)
    (case l_l_things => k_is)
    (case c_l_things => k_is)
    (case k_l_things => k_is)
    (case a_l_order => k_is)
    (case l_l_order => k_is)
    (case c_l_order => k_is)
    (case k_l_order => k_is)
    (case a_l_sort => k_is)
    (case l_l_sort => k_is)
    (case c_l_sort => k_is)
    (case k_l_sort => k_is)
    (case a_l_attribute => k_is)
    (case l_l_attribute => k_is)
    (case c_l_attribute => k_is)
    (case k_l_attribute => k_is)
    (case a_l_told => k_is)
    (case l_l_told => k_is)
    (case c_l_told => k_is)
    (case k_l_told => k_is)
    (case a_l_is_name => k_is)
    (case l_l_is_name => k_is)
    (case c_l_is_name => k_is)
    (case k_l_is_name => k_is)
    (case a_l_wrong => k_is)
    (case l_l_wrong => k_is)
    (case c_l_wrong => k_is)
    (case k_l_wrong => k_is)
    (case a_l_due => k_is)
    (case l_l_due => k_is)
    (case c_l_due => k_is)
    (case k_l_due => k_is)
    (case a_l_made => k_is)
    (case l_l_made => k_is)
    (case c_l_made => k_is)
    (case tb_l_made => first | k_is | rfl | decide)
    (case tp_l_made => first | k_is | rfl | decide)
    (case tn_l_made => first | k_is | rfl | decide)
    (case th_l_made => first | k_is | rfl | decide)
    (case k_l_made => k_is)
    (case a_l_right => k_is)
    (case l_l_right => k_is)
    (case c_l_right => k_is)
    (case tb_l_right => first | k_is | rfl | decide)
    (case tp_l_right => first | k_is | rfl | decide)
    (case tn_l_right => first | k_is | rfl | decide)
    (case th_l_right => first | k_is | rfl | decide)
    (case k_l_right => k_is)
    (case a_law => k_is)
    (case l_law => k_is)
    (case c_law => k_is)
    (case k_law => k_is)
    (case pin_l_made => decide)
    (case pin_l_right => decide)
    (case pne_l_made_l_right => decide)
    (case v_MOST_THINGS => k_is)
    (case v_LETTERS => k_is)
    (case v_DIGITS => k_is)
    (case v_LONGEST_NAME => k_is)
    (case z_len => k_is)
    (case z_isinstance => k_is)
    (case z_all => k_is)
    (case z_enumerate => k_is)
    (case z_tuple => k_is)
    (case z_sorted => k_is)
    (case z_abs => k_is)
    (case z_int => k_is)
    (case z_divmod => k_is)
    (case z_range => k_is)
    (case z_list => k_is)
    (case z_repr => k_is)
    (case z_max => k_is)
    (case z_min => k_is)
    (case z_str => k_is)
