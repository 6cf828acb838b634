import PyProof.Rows.All
import Wide.All
import OpenK.AllK
import Wide.FinOn
import HandS.ForMost
import HandS.IsInst
import HandS.Property
import HandS.TupAny
import HandS.Strs
import HandS.Conv
import HandS.Defaults
import KE.GoesEnum
import HandS.Walk
import PyProof.ReprLen
import PyProof.StrLawsRepr
import PyProof.FitsInt
import KE.KRevSl
import HandS.OwnEq
import HandS.More
import KE.KOpsOwn
import KE.KCallOwn
import PyProof.InstNe
import OpenK.KMeth
import OpenK.KOps
import KE.KFmtOwn
import HandS.FStr
import HandS.ClsMeth
import HandS.MakeKwOnly
import HandS.RaiseMore
import PySem.Challenge.RW_menuhouses_k02_rankings_made
import HandS.Zip
set_option Elab.async false
set_option linter.all false
set_option maxRecDepth 100000
set_option maxHeartbeats 4000000
/-! Own rules beside the layer: promises that know that no repr is under way (FnG), repr of data, sorted of a tuple of texts, enumerate of a tuple, o.m(k = v). -/
namespace MH
open PySem PySem.Spec PyProof.Rows L2

/-! ### promises of defs that are called while no repr is under way -/
def FnG (P : Program) (w : World) (K : PySem.W.Frag) (mg : Str → Option Value) (base : Heap) (k : Nat) (f : Addr) (sp : Sp) : Prop :=
  ∀ (A : Around) (fr : List Env) (st : Shared) (H : Hp) (us : List Value) (vs : List V) (Q : VK), A.guards = some [] → Room k A → Env0 P w K mg base A fr st H → Vals vs us →
    sp vs H Q E0 → codeAny (model P w) A (.call (.ref f) ⟨us, []⟩) (CR CX0 fr P w H st Q E0) st

theorem guards_deeper {A : Around} {env : Env} (h : A.guards = some []) : (A.deeper env).guards = some [] := h

section
variable {P : Program} {w : World} {K : PySem.W.Frag} {mg : Str → Option Value} {base : Heap} {k : Nat} {f : Addr} {sp : Sp}
theorem FnG.mono {j : Nat} (F : FnG P w K mg base j f sp) (h : j ≤ k) : FnG P w K mg base k f sp := fun A fr st H us vs Q hg hr => F A fr st H us vs Q hg (hr.mono h)

theorem fg_of {name qual : Str} {pms : Arguments} {body : List Stmt} {sc : Scope} {dV kV doc pm cdv ct oc : Value} {an od : Option Addr} {osl : Array (Option Value)} {N ps : List Str}
    (lk : K.lookup f = some ⟨oc, od, .func (PySem.W.fnOf name qual pms body sc dV kV doc pm an cdv ct), osl⟩) (hc : PySem.W.codeIn K cdv qual = true) (S : FnScope N ps sc)
    (hB : Binds K (PySem.W.fnOf name qual pms body sc dV kV doc pm an cdv ct) ps []) (hlen : ∀ vs H Q E, sp vs H Q E → vs.length = ps.length)
    (hbd : ∀ (A : Around) (fr : List Env) (st : Shared) (H : Hp) (vs : List V) (Q : VK), A.guards = some [] → Room k (A.deeper (envOfC qual sc st.heap.objs.size f cdv)) → sp vs H Q E0 →
      ∃ t, PSs (cxOf CX0 P w K mg base N qual sc f cdv A fr st H E0).nox body t ∧ t { nx := fun _ H' => Q .non H', rt := Q } (start N vs) H) :
    FnG P w K mg base (k + 1) f sp := by
  intro A fr st H us vs Q hg hr e0 r hs
  have hl := hlen _ _ _ _ hs
  have hul : (us ++ []).length = ps.length := by
    rw [List.append_nil, ← r.length, hl]
  have KX : K.In st.heap := e0.mod.kin.keeps fun b o e => (e0.bs b o e).1
  have nl : st.heap.NoLimit := e0.mod.nolimit.keeps fun b o e => (e0.bs b o e).1
  have hk : ∀ y ∈ ps.zip us, sc.names.lookup y.1 = some .local ∨ (sc.names.lookup y.1 = some .cell ∧ ((cellsFrom (st.heap.objs.size + 1) sc.names []).lookup y.1).isSome = true) := by
    intro y hy
    rcases S.par y.1 (List.of_mem_zip hy).1 with q | q
    · exact .inl q
    · exact .inr ⟨q, PySem.W.cellsFrom_some _ _ _ (.inl q)⟩
  have hb2 := hB st us KX hul
  rw [List.append_nil] at hb2
  refine codeAny_call_function hr.depth (KX _ _ lk) rfl S.co S.gen rfl (PySem.W.codeRec_of KX hc) (hb2 _ _ _ _ ?_)
  refine wpAny_newFunctionEnv_cells S.kind hk fun env he s1 x => ?_
  subst he
  refine ⟨nl.keeps x.toInCall.keep, codeAny_func ?_⟩
  obtain ⟨t, ht, hq⟩ := hbd A fr st H vs Q hg (hr.deeper _) hs
  have J : Inv (cxOf CX0 P w K mg base N qual sc f cdv A fr st H E0) [] (start N vs) H s1 := inv_start S hr.hd e0 hl r x
  refine wpAny_mono (ht.nox.run [] s1 (start N vs) H _ J hq) (fun fl s' hz => ?_) fun e s' hz => hz
  cases fl with
  | ret u =>
    obtain ⟨v, σ', H', J', rv, q⟩ := hz
    exact ⟨v, H', J'.os, J'.bare, J'.base, J'.hok, rv, q⟩
  | next =>
    obtain ⟨σ', H', J', q⟩ := hz
    exact ⟨.non, H', J'.os, J'.bare, J'.base, J'.hok, rfl, q⟩
  | brk => exact (hz.choose_spec.choose_spec.2 : False).elim
  | cont => exact (hz.choose_spec.choose_spec.2 : False).elim

/-- the def's rule, by its text -/
theorem fun_g {x qual : Str} {st : Stmt} {fd : FuncData} {N ps : List Str} (F : Fun K x qual st f fd) (S : FnScope N ps (defScope st)) (hB : Binds K fd ps []) (hlen : ∀ vs H Q E, sp vs H Q E → vs.length = ps.length)
    (hbd : ∀ (cdv : Value) (A : Around) (fr : List Env) (s : Shared) (H : Hp) (vs : List V) (Q : VK), A.guards = some [] → Room k (A.deeper (envOfC qual (defScope st) s.heap.objs.size f cdv)) → sp vs H Q E0 →
      ∃ t, PSs (cxOf CX0 P w K mg base N qual (defScope st) f cdv A fr s H E0).nox (defBody st) t ∧ t { nx := fun _ H' => Q .non H', rt := Q } (start N vs) H) :
    FnG P w K mg base (k + 1) f sp := by
  obtain ⟨oc, od, kV, doc, pm, an, cdv, ct, osl, rfl, lk, hc⟩ := F.ex
  exact fg_of lk hc S hB hlen fun A fr s H vs Q hg hr hs => hbd cdv A fr s H vs Q hg hr hs
end

/-- a promise that holds anyway holds while no repr is under way -/
theorem FnOk.toG {P : Program} {w : World} {K : PySem.W.Frag} {mg : Str → Option Value} {base : Heap} {k : Nat} {f : Addr} {fd : FuncData} {ps : List Str} {sp : Sp} (F : FnOk P w K mg base CX0 k f fd ps sp) (hB : Binds K fd ps []) :
    FnG P w K mg base k f sp := fun A fr st H us vs Q _ hr e0 r hs => by
  have KX : K.In st.heap := e0.mod.kin.keeps fun b o e => (e0.bs b o e).1
  have hl : (us ++ []).length = ps.length := by rw [List.append_nil, ← r.length, F.len _ _ _ _ hs]
  have hb2 := hB st us KX hl
  rw [List.append_nil] at hb2
  exact F.run A fr st H ⟨us, []⟩ us vs Q E0 hr e0 hb2 r hs

section
variable {X : Cx} {k : Nat} {f : Addr} {sp : Sp} {x : Str} {p pos : Pos} {e : Expr} {es : List Expr} {t : TA}
/-- f(e, ..) -/
theorem pe_callg (F : FnG X.prog X.w X.K X.mg X.base k f sp) (hg : X.A.guards = some []) (hr : Room k X.A) (gl : Gl X x) (hm : X.mg x = some (.ref f)) (hk : PySem.W.keepIn X.K (.ref f) = true)
    (ha : PA X (e :: es) t) (hdb : (x == ("__debug__" : Str)) = false := by decide) (he : starEach (e :: es) X.env = (false, eval e X.env) :: starEach es X.env := by rfl) (hpl : (backTo pos (starEach es X.env)).any (·.1) = false := by rfl) :
    PE X (.Call (.Name x p) (e :: es) [] pos) (tCall sp [] E0 t) := by
  refine ⟨fun pins s σ H Q I h => ?_⟩
  refine wpAny_Call_Name_kw (ld_glob I gl hm ?_ hdb)
  refine PySem.W.callWith_K (h₀ := X.base) I.ok.mod.kin hk (thn (ha.run pos pins s σ H _ I h) fun us s1 ⟨vs, H1, I1, r, q⟩ => ⟨I1.kIn, ?_⟩) he hpl
  have q1 : sp vs H1 Q E0 := by
    have z : sp (vs ++ []) H1 Q E0 := q
    rw [List.append_nil] at z
    exact z
  refine wpAny_call (codeAny_mono (F X.A X.stack s1 H1 us vs Q hg hr I1.env0 r q1) fun r s' hq => ?_)
  match r, hq with
  | .ok (.ret u), hq => exact I1.after hq
  | .ok .next, hq => exact False.elim hq
  | .ok .brk, hq => exact False.elim hq
  | .ok .cont, hq => exact False.elim hq
  | .error _, hq => exact False.elim hq
end

/-! ### repr of data -/
def rRepr (K : PySem.W.Frag) : List V → Hp → VK → Prop := fun xs H Q => ∃ (a : Addr) (d : PyData), xs = [.ref a] ∧ Dp K H (.ref a) d ∧ d.showable = true ∧ d.hasDict = false ∧ d.depth ≤ 60 ∧ d.shown.length ≤ sizeLine ∧ Q (.str d.shown) H
section
variable {X : Cx}
theorem call_reprD (hg : X.A.guards = some []) (hu : X.A.units + 64 < cLine) : CallR X (.builtin "repr") (rRepr X.K) := by
  intro pins s σ H xs us Q I r h
  obtain ⟨a, d, rfl, hd, h1, h2, h3, h4, q⟩ := h
  obtain ⟨u, rfl, ru⟩ := vals1 r
  obtain ⟨as, rd⟩ := Dp.reads I d _ _ hd ru
  obtain rfl : u = Value.ref a := ru
  exact repr_of_reads' rd h1 (PyData.noDict_hsm h2) hg (by omega) (fun _ _ e => e) (fun h' u tk hk => ⟨.str d.shown, H, I.kept hk, ⟨_, rfl⟩, q⟩) h4
end

/-! ### sorted of a tuple of texts -/
section
variable {prog : Program} {w : World} {A : Around} {E : Value → Shared → Prop} {s : Shared}
theorem collect_tup {t : Addr} {us : List Value} {Q : List Value → Shared → Prop} (ht : s.heap.IsTuple t us.toArray) (hz : us.length ≤ sizeLine)
    (k : Q us { s with heap := (s.heap.push (seqObj "list" #[] 0)).update s.heap.objs.size (Obj.mapSeq (· ++ us.toArray)) }) :
    wpAny (model prog w) A (collect (.ref t)) Q E s := by
  obtain ⟨o, ho, hc, n, hd⟩ := id ht
  have new0 : ∀ x : Addr, x = s.heap.objs.size → (s.heap.push (seqObj "list" #[] 0)).get? x = some (seqObj "list" #[] 0) := fun x e => by
    rw [e]
    exact Heap.get?_push_size _ rfl
  have old : (s.heap.push (seqObj "list" #[] 0)).get? t = some o := Heap.get?_push_of_some _ ho
  unfold collect
  refine wpAny_bind (wpAny_runValue (codeAny_builtin entry_proto_collect' ?_))
  show wpAny _ _ (newList [] >>= fun l => again (.builtin "list.__iadd__" ⟨[l, .ref t], []⟩)) _ _ s
  refine wpAny_bind (wpAny_newList (wpAny_pure ⟨Code.quiet_builtin _ (by decide +kernel), codeAny_builtin entry_list_iadd' ?_⟩))
  refine (show wpAny _ _ (Builtin.List.listExtendWith (.ref s.heap.objs.size) (.ref t) (.ref s.heap.objs.size)) _ _ { s with heap := s.heap.push (seqObj "list" #[] 0) } from ?_)
  unfold Builtin.List.listExtendWith
  refine wpAny_bind (wpAny_typeOf (T := "tuple") ⟨o, old, hc⟩ ?_)
  have b2 : (Value.type "tuple" == Value.type "tuple") = true := by rfl
  rw [if_pos (by rw [b2]; simp)]
  refine wpAny_bind (listItems_at old hd ?_)
  refine wpAny_bind (listItems_at (xs := #[]) (n := 0) (new0 _ rfl) rfl ?_)
  rw [if_neg (by simp)]
  have hz2 : (#[] ++ us.toArray).size ≤ sizeLine + 1 := by
    simp only [Array.size_append, List.size_toArray, List.length_nil]
    omega
  refine wpAny_bind (listUpdate_at (xs := #[]) (n := 0) (new0 _ rfl) rfl ?_ (Nat.zero_le _) hz2)
  refine wpAny_pure ?_
  refine (show wpAny (model prog w) A (load s.heap.objs.size >>= fun o => match o.data with
      | .seq xs _ => pure xs.toList
      | _ => unsupported "internal:collect") Q E { s with heap := (s.heap.push (seqObj "list" #[] 0)).update s.heap.objs.size (Obj.mapSeq (· ++ us.toArray)) } from ?_)
  refine wpAny_bind (wpAny_load (get?_update_seq (new0 _ rfl) _) ?_)
  have e : ((#[] : Array Value) ++ us.toArray).toList = us := by simp
  refine (show wpAny _ _ (pure ((#[] : Array Value) ++ us.toArray).toList) Q E _ from ?_)
  rw [e]
  exact wpAny_pure k

theorem sorted_tup {t : Addr} {us : List Value} {ss : List Str} {Q : Value → Shared → Prop} (ht : s.heap.IsTuple t us.toArray) (hS : StrsAre us ss) (h64 : us.length < 64)
    (k : ∀ (out : Array Value) (ys : List Str), StrsAre out.toList ys → ys.Perm ss → sortedS ys = true → Q (.ref (s.heap.objs.size + 1)) { s with heap := sortedAll s.heap us out }) :
    wpAny (model prog w) A (call (.builtin "sorted") [.ref t]) Q E s := by
  refine Calls.call_function_entry kind_sorted plain_sorted entry_sorted (args_sorted1 _) ?_
  unfold Builtin.«sorted»
  refine wpAny_bind (m := checkCount "sorted" 1 1 _) (wpAny_pure ?_)
  refine wpAny_bind (collect_tup ht (small64 h64) (wpAny_bind (wpAny_newList ?_)))
  have size1 : ((s.heap.push (seqObj "list" #[] 0)).update s.heap.objs.size (Obj.mapSeq (· ++ us.toArray))).objs.size = s.heap.objs.size + 1 := by
    rw [Heap.size_update, size_push']
  have at1 : (((s.heap.push (seqObj "list" #[] 0)).update s.heap.objs.size (Obj.mapSeq (· ++ us.toArray))).push (seqObj "list" us.toArray 0)).get? (s.heap.objs.size + 1) = some (seqObj "list" us.toArray 0) := by
    rw [← size1]
    exact Heap.get?_push_size _ rfl
  refine (show wpAny _ _ _ _ _ { s with heap := ((s.heap.push (seqObj "list" #[] 0)).update s.heap.objs.size (Obj.mapSeq (· ++ us.toArray))).push (seqObj "list" us.toArray 0) } from ?_)
  rw [size1]
  refine wpAny_bind (wpAny_holding (wpAny_call_entry slot_list_sort ⟨_, at1, rfl⟩ entry_list_sort
    (list_sort_treeK strKind_oneLt at1 hS.keysOf (fun v1 v2 rest e => keyKind_strs (by rw [← e]; exact hS)) h64 fun st hp hs => ⟨_, rfl, ?_⟩) (args_list_sort _)))
  obtain ⟨ys, h1, h2, h3⟩ := sorted_out_str hS hp hs
  exact wpAny_pure ⟨_, rfl, k _ ys h1 h2 h3⟩
end
def rSortedU (K : PySem.W.Frag) : List V → Hp → VK → Prop := fun vs H Q => ∃ (a : Addr) (xs : List Str), vs = [V.ref a] ∧ SqT K H a (xs.map V.str) ∧ xs.length < 64 ∧ ∀ (ys : List Str) (p : Addr), ys.Perm xs → sortedS ys = true → H p = none → Q (.ref p) (upd H p (.lst (ys.map V.str)))
section
variable {X : Cx}
theorem cr_sortedU : CallR X (.builtin "sorted") (rSortedU X.K) := by
  intro pins s σ H vs us Q I r h
  obtain ⟨a, xs, rfl, hs, h64, q⟩ := h
  obtain ⟨its, rv, ht, _⟩ := I.tuple hs
  rw [Vals.ref1 r]
  have hl0 : xs.length = its.length := by
    have z := rv.length
    rw [List.length_map] at z
    exact z
  refine sorted_tup (s := s) ht rv.strs (hl0 ▸ h64) fun out ys h1 h2 h3 => ?_
  obtain ⟨ep, he⟩ := sortedAll_at s.heap its out
  have hz : (ys.map V.str).length ≤ sizeLine := by
    rw [List.length_map, h2.length_eq]
    exact small64 h64
  refine ⟨.ref _, upd H (s.heap.objs.size + 1) (.lst (ys.map V.str)), ?_, rfl, q ys _ h2 h3 (I.hok.fresh (Nat.le_succ _))⟩
  exact I.laid (t' := s.toks) (fun _ _ => sortedAll_old) (Nat.le_succ _) ⟨hz, out.toList, ep, vals_of_strs h1, he⟩
end

/-! ### enumerate of a tuple -/
theorem enum_tup_new {t : Addr} {items : Array Value} : Meets (Builtin.«enumerate.__new__» ⟨[.type "enumerate", .ref t], []⟩) (fun _ R s => s.heap.IsTuple t items ∧
      R (.ok (.ret (.ref (s.heap.push { cls := .type "tuple_iterator", data := .fields #[.ref t, .int 0 0] }).objs.size)))
        { s with heap := (s.heap.push { cls := .type "tuple_iterator", data := .fields #[.ref t, .int 0 0] }).push { cls := .type "enumerate", data := .fields #[.none, .bool false, .ref s.heap.objs.size, rawInt 0, .none, .none] } }) :=
  .of_wp fun prog w A R s h => by
    obtain ⟨hp, g, d, tk, os⟩ := s
    obtain ⟨hT, k⟩ := h
    have hsub := sub_enumerate
    have it : ∀ {A' : Around} {E Q : Value → Shared → Prop}, Q (.ref hp.objs.size) ⟨hp.push { cls := .type "tuple_iterator", data := .fields #[.ref t, .int 0 0] }, g, d, tk, os⟩ → wpAny (model prog w) A' (pyIter (.ref t)) Q E ⟨hp, g, d, tk, os⟩ :=
      fun q => wpAny_pyIter_tuple (items := items) hT q
    wp_walk using it
    refine wpAny_stack_any fun st => wpAny_pure ?_
    split
    · rename_i c _ _ _ _ _
      cases (c == Value.type "enumerate") <;> (wp_walk using it; exact ⟨_, rfl, k⟩)
    · wp_walk using it
      exact ⟨_, rfl, k⟩
section
variable {prog : Program} {w : World} {A : Around} {E : Value → Shared → Prop} {s : Shared}
theorem call_enum_tup {t : Addr} {items : Array Value} {Q : Value → Shared → Prop} (hT : s.heap.IsTuple t items)
    (k : ∀ h', IsEnum h' (s.heap.objs.size + 1) s.heap.objs.size 0 .none → h'.IsTupleIter s.heap.objs.size t 0 → h'.objs.size = s.heap.objs.size + 2 →
      (∀ b o, s.heap.get? b = some o → h'.get? b = some o) → Q (.ref (s.heap.objs.size + 1)) { s with heap := h' }) :
    wpAny (model prog w) A (call (.type "enumerate") [.ref t]) Q E s := by
  refine callType_new F.called_enumerate (by decide) (F.typeCall_enumerate_1 _) (F.newCall_enumerate_1 _) (fun obj => F.args_object_init_2 obj _) F.entry_enumerate_new enum_tup_new ⟨hT, ?_⟩
  have hz : (s.heap.push { cls := .type "tuple_iterator", data := .fields #[.ref t, .int 0 0] }).objs.size = s.heap.objs.size + 1 := Heap.size_push ..
  refine (show _ ∧ _ from ?_)
  rw [hz]
  have he := Heap.get?_push_size (s.heap.push { cls := .type "tuple_iterator", data := .fields #[.ref t, .int 0 0] }) (o := { cls := .type "enumerate", data := .fields #[.none, .bool false, .ref s.heap.objs.size, rawInt 0, .none, .none] }) rfl
  rw [hz] at he
  refine ⟨⟨_, he, rfl⟩, k _ he ⟨_, Heap.get?_push_of_some _ (Heap.get?_push_size _ rfl), rfl, rfl⟩ ?_ fun b o x => Heap.get?_push_of_some _ (Heap.get?_push_of_some _ x)⟩
  rw [Heap.size_push, hz]
end
theorem wpAny_pyNext_enum_none {prog : Program} {w : World} {A : Around} {E : Value → Shared → Prop} {s : Shared} {e it t : Addr} {i : Nat} {items : Array Value} {old : Value} {Q : Option Value → Shared → Prop} (hh : A.in1.handled = none) (he : IsEnum s.heap e it i old) (hit : s.heap.IsTupleIter it t i) (ht : s.heap.IsTuple t items)
    (hx : items[i]? = none) (k : ∀ h', Heap.ExtBut it s.heap h' → Q none { s with heap := h' }) : wpAny (model prog w) A (pyNext (.ref e)) Q E s := by
  have ty : s.TypeIs (.ref e) "enumerate" := ⟨_, he, rfl⟩
  unfold pyNext
  refine wpAny_bind (wpAny_attempt (wpAny_callSpecial?_slot (name := Str.ofString "__next__") ty F.slot_enumerate_next
    (wpAny_call_entry F.slot_enumerate_next ty F.entry_enumerate_next ?_ (F.args_enumerate_next_1 _))))
  refine (show wpAny _ _ (field (.ref e) 2 >>= _) _ _ _ from ?_)
  refine wpAny_bind (wpAny_field he rfl (x := .ref it) rfl ?_)
  refine wpAny_bind (wpAny_nextOf_tuple_end hh hit ht hx fun h' x eb hx' => ?_)
  obtain ⟨o, ho, hc⟩ := hx'
  refine wpAny_bind (wpAny_isInstance (T := "StopIteration") (b := true) ⟨o, ho, hc⟩ isSubtype_stop ?_)
  exact wpAny_pure (k _ eb)
/-- the tuple at a, each item in a new pair behind its index -/
def IteT (K : PySem.W.Frag) (a : Addr) : It where
  go := fun i H => ∃ xs x, SqT K H a xs ∧ xs[i]? = some x
  yld := fun i H v H' => ∃ T x, v = .ref T ∧ H T = none ∧ H' = upd H T (.tup [.int (i : Nat), x]) ∧ ∀ xs, SqT K H a xs → xs[i]? = some x
  stop := fun i H => ∃ xs, SqT K H a xs ∧ xs.length ≤ i
theorem turn_enumT {P : Program} {w : World} {K : PySem.W.Frag} {elts : List Expr} {kk : Nat} {tpos : Pos} (a e it : Addr) :
    Turn P w K (.Tuple elts kk tpos) (IteT K a) [e, it] e (fun i h => (∃ old, IsEnum h e it ((i : Nat) : Int) old) ∧ h.IsTupleIter it a i ∧ e ≠ it) where
  mem := List.mem_cons_self
  obj := by
    rintro i h ⟨⟨old, he⟩, ⟨o, ho, hc, hd⟩, _⟩ b hb
    have e' : b = e ∨ b = it := by simpa using hb
    rcases e' with rfl | rfl
    · exact ⟨_, he, fun v q => nomatch q⟩
    · refine ⟨o, ho, fun v q => ?_⟩
      rw [hd] at q
      cases q
  keep := fun i h h' st k => ⟨⟨st.1.choose, k e (by simp) _ st.1.choose_spec⟩, st.2.1.at fun o q => k it (by simp) o q, st.2.2⟩
  item := by
    intro X hP hw hK hc i pins s σ H E I hf st hg
    subst hP hw hK
    obtain ⟨⟨old, he⟩, hit, hne⟩ := st
    obtain ⟨xs, x, hq, hx⟩ := hg
    obtain ⟨its, rv, p, hz⟩ := I.tuple hq
    obtain ⟨u, hu, ru⟩ := rv.get hx
    have hel : e < s.heap.objs.size := Heap.lt_size he
    have hil : it < s.heap.objs.size := by
      obtain ⟨_, q, _⟩ := hit
      exact Heap.lt_size q
    obtain ⟨ot, hot, hct, _⟩ := id (show s.heap.IsTuple a its.toArray from p)
    have hae : e ≠ a := fun q => by
      have z : s.heap.get? e = some ot := q ▸ hot
      rw [he] at z
      cases z
      exact absurd (show Value.type "enumerate" = Value.type "tuple" from hct) (by decide)
    have hait : a ≠ it := fun q => by
      obtain ⟨o2, h2, c2, _⟩ := hit
      rw [← q, hot] at h2
      cases h2
      rw [hct] at c2
      exact absurd c2 (by decide)
    have hlt : i < its.toArray.size := by
      have := (List.getElem?_eq_some_iff.mp hu).1
      simpa using this
    have hh : X.A.in1.handled = none := I.ok.hd hc
    refine wpAny_pyNext_enum_itemD (Draws.tuple hh it a hait its.toArray) he ⟨hit, p⟩ hlt hne (by simp [hne, hae]) fun y h' tk hy ho hst hT hsz hk => ?_
    have hyu : y = u := by
      have z : its.toArray[i]? = some y := hy
      rw [List.getElem?_toArray, hu] at z
      exact (Option.some.inj z).symm
    subst hyu
    refine ⟨_, rfl, wpAny_letOwnedTupleGo_enum (s := { s with heap := h', toks := tk + 1 }) ho fun h'' he' sb => ?_⟩
    have hT2 : h''.get? s.heap.objs.size = some { cls := .type "tuple", data := .seq #[.int i tk, y] } := (sb.2 _ (Nat.ne_of_gt hel)).trans hT
    have new : ObjOk X.prog X.w (upd H s.heap.objs.size (.tup [.int (i : Nat), x])) h'' s.heap.objs.size (.tup [.int (i : Nat), x]) :=
      ⟨(by decide : 2 ≤ sizeLine), [.int i tk, y], .cons ⟨_, rfl⟩ (.cons ru .nil), ⟨_, hT2, rfl, _, rfl⟩⟩
    have I1 : Inv X pins σ (upd H s.heap.objs.size (.tup [.int (i : Nat), x])) { s with heap := h'', toks := tk + 1 } := by
      refine I.turnedNew (ch := [e, it]) (fun b ob hb q => ?_) hf (Nat.le_refl _) new
      rw [sb.2 b (fun z => hb (by simp [z]))]
      exact hk b ob (fun z => hb (by simp [z])) (fun z => hb (by simp [z])) q
    refine ⟨.ref s.heap.objs.size, _, I1, rfl, ⟨_, x, rfl, I.hok.fresh (Nat.le_refl _), rfl, fun ys hy => by rw [I.tuple_inj hy hq]; exact hx⟩, ⟨⟨y, ?_⟩, ?_, hne⟩, fun b hb => ?_⟩
    · rw [show ((i + 1 : Nat) : Int) = (i : Int) + 1 from by omega]
      exact he'
    · exact hst.1.at fun o q => (sb.2 it (Ne.symm hne)).trans q
    · have hb' : b < s.heap.objs.size := by
        have e' : b = e ∨ b = it := by simpa using hb
        rcases e' with z | z
        · rw [z]
          exact hel
        · rw [z]
          exact hil
      rw [upd_ne (Nat.ne_of_lt hb')]
      exact (hf b hb).1
  done := by
    intro X hP hw hK hc i pins s σ H E I hf st hg
    subst hP hw hK
    obtain ⟨⟨old, he⟩, hit, hne⟩ := st
    obtain ⟨xs, hq, hx⟩ := hg
    obtain ⟨its, rv, p, hz⟩ := I.tuple hq
    obtain ⟨f0, f1, f2, f3, f4, f5⟩ := hf it (by simp)
    have hh : X.A.in1.handled = none := I.ok.hd hc
    have hl := rv.length
    obtain ⟨ot, hot, hct, _⟩ := id (show s.heap.IsTuple a its.toArray from p)
    have hait : a ≠ it := fun q => by
      obtain ⟨o2, h2, c2, _⟩ := hit
      rw [← q, hot] at h2
      cases h2
      rw [hct] at c2
      exact absurd c2 (by decide)
    refine wpAny_pyNext_enum_none hh he hit p (by simp; omega) fun h' eb => ⟨rfl, I.turned (t' := s.toks) (fun b o hb q => eb b o hb q) f0 f1 f3 f4 f5⟩
  self := fun A i s Q E st h => wpAny_pyIter_enum st.1.choose_spec h
def iEnumT (K : PySem.W.Frag) (ta : TA) : TI := fun σ H R => ta σ H fun vs H1 => ∃ a xs, vs = [.ref a] ∧ SqT K H1 a xs ∧ R (IteT K a) H1
theorem pi_enumT {X : Cx} {e : Expr} {ta : TA} {p pos tpos : Pos} {elts : List Expr} {kk : Nat} (hg : Gl X "enumerate") (hm : X.mg "enumerate" = none) (ha : PA X [e] ta) (hs : starEach [e] X.env = [(false, eval e X.env)] := by rfl) :
    PI X (.Tuple elts kk tpos) (.Call (.Name "enumerate" p) [e] [] pos) (iEnumT X.K ta) := by
  refine ⟨fun pins s σ H R I h => ?_⟩
  refine Call_ (ld_blt I hg hm boot_enumerate (PyProof.Rows.callWith_type1 (thn (ha.run pos pins s σ H _ I h) fun us s1 ⟨vs, H1, I1, r1, a, xs, ex, hq, q⟩ => ?_) hs rfl))
  subst ex
  obtain ⟨u, rfl, ru⟩ := vals1 r1
  obtain rfl : u = Value.ref a := ru
  obtain ⟨its, rv, p', hz⟩ := I1.tuple hq
  refine call_enum_tup (show s1.heap.IsTuple a its.toArray from p') fun h' he hit hsz hk => wpAny_pyIter_enum he ?_
  have I2 : Inv X pins σ H1 { s1 with heap := h' } := I1.kept (t' := s1.toks) hk
  refine ⟨s1.heap.objs.size + 1, [s1.heap.objs.size + 1, s1.heap.objs.size], _, _, H1, rfl, I2, turn_enumT a (s1.heap.objs.size + 1) s1.heap.objs.size, ⟨⟨.none, he⟩, hit, Nat.succ_ne_self _⟩, fun b hb => ?_, q⟩
  have e' : b = s1.heap.objs.size + 1 ∨ b = s1.heap.objs.size := by simpa using hb
  have hle : s1.heap.objs.size ≤ b := by
    rcases e' with z | z
    · rw [z]
      exact Nat.le_succ _
    · rw [z]
      exact Nat.le_refl _
  exact I1.fpOk hle (I1.hok.fresh hle)

/-! ### o.m(k = v, ..) -/
def tMethK (C : Addr) (m : Str) (n : Nat) (sp : Sp) (gV : List V → List V → List V) (E : XK) (ta : TE) (tk : TA) : TE := fun σ H Q => ta σ H fun x H1 => ∃ a dx fs, x = .ref a ∧ H1 a = some (.ins C dx fs) ∧ fs.lookup m = none ∧
  tk σ H1 fun zs H2 => zs.length = n ∧ sp (gV [x] zs) H2 Q E
section
variable {X : Cx} {CX : CXT} {k : Nat} {C f : Addr} {fd : FuncData} {ps ks : List Str} {sp : Sp} {E : XK} {o : Expr} {m : Str} {apos pos : Pos} {kws : List Keyword} {ta : TE} {tk : TA} {g : List Value → List Value → List Value} {gV : List V → List V → List V} {pl : Sem Bool}
theorem pe_methK0 (he : PE X o ta) (c : Cls X.K C) (hm : Meth X.K C m f) (F : FnOk X.prog X.w X.K X.mg X.base CX k f fd ps sp) (hr : Room k X.A) (hb : KBn X.K fd ps 1 ks g gV) (hx : Passes CX X E) (hkw : PK X kws tk)
    (hall : (backToKw pos (keywordEach kws X.env)).all (·.1.isSome) = true := by rfl) (hks : (backToKw pos (keywordEach kws X.env)).filterMap (·.1) = ks := by rfl)
    (hpl : ((backTo pos (starEach [] X.env)).any (·.1) || (backToKw pos (keywordEach kws X.env)).any (·.1.isNone)) = false := by rfl)
    (ht : eval (.Call (.Attribute o m apos) [] kws pos) X.env = (do
      let ov ← eval o X.env
      standAt apos.atName
      let (f, first) ← holding [ov] (getMethod ov m pl)
      callWith pos f first (backTo pos (starEach [] X.env)) (backToKw pos (keywordEach kws X.env))) := by rfl) :
    PE X (.Call (.Attribute o m apos) [] kws pos) (tMethK C m ks.length sp gV E ta tk) := by
  refine ⟨fun pins s σ H Q I h => ?_⟩
  refine PySem.W.methodCall_KW (pl := pl) (thn (he.run pins s σ H _ I h) fun u s1 ⟨x, H1, I1, rx, a, dx, fs, ex, ea, l, q⟩ => ?_) ht
  subst ex
  obtain rfl : u = Value.ref a := rx
  refine getmeth_ok I1 ea c hm l ?_
  refine PySem.W.callWith_KW0 (first := [.ref a]) (h₀ := X.base) I.ok.mod.kin hm.kp hall ?_ hpl
  refine thn (hkw.run pos pins s1 σ H1 _ I1 q) fun ws s2 ⟨zs, H2, I2, rz, hz, q2⟩ => ⟨I2.kIn, ?_⟩
  rw [hks]
  have r1 : Vals [V.ref a] [Value.ref a] := .cons rfl .nil
  have r2 := hb.rel r1 rz
  refine wpAny_call (codeAny_mono (F.run X.A X.stack s2 H2 ⟨[.ref a], ks.zip ws⟩ (g [.ref a] ws) (gV [.ref a] zs) Q E hr I2.env0 (hb.to s2 [.ref a] ws I2.kIn rfl (rz.length.symm.trans hz)) r2 q2) fun r s' hq => ?_)
  match r, hq with
  | .ok (.ret u), hq => exact I2.after hq
  | .ok .next, hq => exact False.elim hq
  | .ok .brk, hq => exact False.elim hq
  | .ok .cont, hq => exact False.elim hq
  | .error e, hq => exact hx pins σ H2 s2 e s' I2 hq
end

/-! ### tuples that are known to the object: their methods -/
def TupO (H : Hp) (a : Addr) (xs : List V) : Prop := ∃ o : Obj, H a = some (.frz o (.tup xs)) ∧ o.dict = none
theorem TupO.sqt {K : PySem.W.Frag} {H : Hp} {a : Addr} {xs : List V} (h : TupO H a xs) : SqT K H a xs := .inl (.inr ⟨_, h.choose_spec.1⟩)
theorem TupO.same {H H' : Hp} {a : Addr} {xs : List V} (h : TupO H a xs) (s : ∀ b o, H b = some o → H' b = some o) : TupO H' a xs := ⟨_, s _ _ h.choose_spec.1, h.choose_spec.2⟩
/-- tuple(list): a new one; tuple(tuple): itself -/
def rTupF (K : PySem.W.Frag) : List V → Hp → VK → Prop := fun xs H Q => ∃ p ys, xs = [.ref p] ∧ ((SqL K H p ys ∧ ∀ (l : Addr) (o : Obj), H l = none → o.dict = none → Q (.ref l) (upd H l (.frz o (.tup ys)))) ∨ (SqT K H p ys ∧ Q (.ref p) H))
def tTupM (r : V → List V → Hp → VK → Prop) (to : TE) (t : TA) : TE := fun σ H Q => to σ H fun x H1 => (∃ a xs, x = .ref a ∧ TupO H1 a xs) ∧ t σ H1 fun vs H2 => r x vs H2 Q
section
variable {X : Cx} {o e : Expr} {es : List Expr} {to : TE} {t : TA} {name : Str} {apos cpos : Pos} {id : String} {r : V → List V → Hp → VK → Prop}
theorem call_tupF : CallR X (.type "tuple") (rTupF X.K) := by
  intro pins s σ H xs us Q I r h
  obtain ⟨p, ys, rfl, h⟩ := h
  obtain ⟨u, rfl, rx⟩ := vals1 r
  obtain rfl : u = Value.ref p := rx
  rcases h with ⟨hq, q⟩ | ⟨hq, q⟩
  · obtain ⟨its, rv, pl, hz⟩ := I.list hq
    have hl := rv.length
    refine call_tuple_list pl.isList (fun h' kp => ?_) (by simp only [List.size_toArray]; omega)
    have I1 : Inv X pins σ H { s with heap := h' } := I.kept (t' := s.toks) kp
    have at1 := Heap.get?_push_size h' (o := { cls := .type "tuple", data := .seq its.toArray }) rfl
    have I2 : Inv X pins σ (upd H h'.objs.size (.frz { cls := .type "tuple", data := .seq its.toArray } (.tup ys))) { s with heap := h'.push { cls := .type "tuple", data := .seq its.toArray } } :=
      I1.laid (t' := s.toks) (fun b o e => Heap.get?_push_of_some _ e) (Nat.le_refl _) ⟨at1, hz, its, rv, IsTup.new _ _⟩
    exact ⟨.ref h'.objs.size, _, I2, rfl, q _ _ (I1.hok.fresh (Nat.le_refl _)) rfl⟩
  · obtain ⟨its, rv, pl, hz⟩ := I.tuple hq
    exact call_tuple_same pl ⟨.ref p, H, I, rfl, q⟩
theorem pe_tupM (slot : Slot "tuple" name id) (hty : typeOf (.builtin id) = pure (.type "method_descriptor")) (hm : MtR X id r) (ho : PE X o to) (ha : PA X (e :: es) t)
    (hbase : attributeBase o name X.env (eval o X.env) = eval o X.env := by rfl)
    (hfew : ((backTo cpos (starEach (e :: es) X.env)).all (fun x => !x.1) && (backToKw cpos (keywordEach [] X.env)).all (fun x => x.1.isSome)
      && decide ((e :: es).length + ([] : List Keyword).length + (if ([] : List Keyword).isEmpty then 0 else 1) < 30)) = true := by rfl)
    (hline : (apos.endLine == cpos.line) = true := by rfl) (hs : starEach (e :: es) X.env = (false, eval e X.env) :: starEach es X.env := by rfl) (hp : (backTo cpos (starEach es X.env)).any (·.1) = false := by rfl) :
    PE X (.Call (.Attribute o name apos) (e :: es) [] cpos) (tTupM r to t) := by
  refine ⟨fun pins s σ H Q I h => ?_⟩
  refine wpAny_Call_method_late hbase hfew hline rfl (thn (ho.run pins s σ H _ I h) fun v s1 ⟨x, H1, I1, r1, ⟨a, xs, ex, ob, ea, ed⟩, q1⟩ => ?_)
  subst ex
  obtain rfl : v = Value.ref a := r1
  obtain ⟨g1, _, _, _, og, hog, hcg, _⟩ := (show ObjOk X.prog X.w H1 s1.heap a (.frz ob (.tup xs)) from I1.hok a _ ea)
  refine ⟨"tuple", id, PySem.F.plainAttrs_tuple, slot, hty, ⟨og, hog, hcg⟩, fun b hb => ?_, ?_⟩
  · cases hb
    exact ⟨ob, g1, ed⟩
  · have hA := ha.run cpos pins s1 σ H1 _ I1 q1
    rw [hs] at hA ⊢
    refine Calls.callWith_builtin (show (false || (backTo cpos (starEach es X.env)).any (·.1)) = false from by rw [hp]; rfl) (Calls.evalArgs_plain ?_)
    exact thn hA fun us s2 ⟨vs, H2, I2, r2, q2⟩ => hm pins s2 σ H2 (.ref a) vs (.ref a) us Q I2 rfl r2 q2
end

/-! ### the end of a law whose def is promised while no repr is under way -/
theorem law_callg {P : Program} {w : World} {K : PySem.W.Frag} {mg mb : Str → Option Value} {k : Nat} {fa a : Addr} {sp : Sp} {st : Shared} {us : List Value} {ns : List Int}
    (KX : K.In st.heap) (hn : st.heap.Ns mainGlobals mg) (hb : st.heap.Ns builtinsNs mb) (hbb : ∀ x : Str, x ≠ "__name__" → mb x = bootBuiltins x) (nl : st.heap.NoLimit) (hgens : st.gens = #[])
    (ha : st.heap.get? a = some { cls := .type "list", data := .seq us.toArray }) (hi : IntsAre us ns) (hz : ns.length ≤ sizeLine) (hr : Room k callerA)
    (F : ∀ base : Heap, K.In base → base.Ns mainGlobals mg → FnG P w K mg base k fa sp)
    (hsp : ∀ H : Hp, SqL K H a (ns.map V.int) → sp [.ref a] H (fun v _ => v = .bl true) E0) :
    codeAny (model P w) callerA (.call (.ref fa) ⟨[.ref a], []⟩) (fun r s' => r = .ok (.ret (.bool true)) ∧ OldK st.heap s'.heap ∧ s'.os = st.os ∧ AllBare s'.gens) st := by
  have rv := vals_ints hi
  have hlen := hi.length
  have key : ∀ H : Hp, Only H → SqL K H a (ns.map V.int) → HOk P w H st.heap → (∀ b, H b ≠ none → b = a) → (H a ≠ none → K.lookup a = none) →
      codeAny (model P w) callerA (.call (.ref fa) ⟨[.ref a], []⟩) (fun r s' => r = .ok (.ret (.bool true)) ∧ OldK st.heap s'.heap ∧ s'.os = st.os ∧ AllBare s'.gens) st := by
    intro H hO hS hok hA hK
    have offD : ∀ {b : Addr} {o : Obj} {es : Array DictEntry} {ep : Nat}, st.heap.get? b = some o → o.data = .dict es ep → H b = none := by
      intro b o es ep e d
      cases q : H b with
      | none => rfl
      | some v =>
        obtain rfl : b = a := hA b (by rw [q]; simp)
        rw [ha] at e
        cases e
        exact nomatch d
    have offK : ∀ {b : Addr} {o : Obj}, K.lookup b = some o → H b = none := by
      intro b o e
      cases q : H b with
      | none => rfl
      | some v =>
        obtain rfl : b = a := hA b (by rw [q]; simp)
        rw [hK (by rw [q]; simp)] at e
        cases e
    have toNs : ∀ {b : Addr} {m : Str → Option Value}, st.heap.Ns b m → (hidT st.heap H).Ns b m := fun ⟨o, es, ep, e, d, r⟩ => ⟨o, es, ep, hidT_get e (offD e d), d, r⟩
    have kb : K.In (hidT st.heap H) := fun b o e => hidT_get (KX b o e) (offK e)
    obtain ⟨mc, l1, l2⟩ := nl
    have M : Mod K mg (hidT st.heap H) := ⟨kb, toNs hn, ⟨mb, toNs hb, hbb⟩, ⟨mc, toNs l1, l2⟩⟩
    have e0 : Env0 P w K mg (hidT st.heap H) callerA [] st H :=
      ⟨rfl, M, fun b o e => of_hidT e, Nat.le_of_eq (hidT_size _ _), trivial, fun b hb => absurd (show b ∈ ([] : List Addr) from hb) (by simp), hok, .of_eq hgens⟩
    refine codeAny_mono (F _ kb (toNs hn) callerA [] st H [.ref a] [.ref a] _ rfl hr e0 (.cons rfl .nil) (hsp H hS)) fun r s' h => ?_
    match r, h with
    | .error e, h => exact h.elim
    | .ok .next, h => exact h.elim
    | .ok .brk, h => exact h.elim
    | .ok .cont, h => exact h.elim
    | .ok (.ret u), h =>
      obtain ⟨v, H', os, bare, un, hok', rr, q⟩ := h
      obtain rfl : v = .bl true := q
      obtain rfl : u = Value.bool true := rr
      refine ⟨rfl, OldK.of_keep fun b o e => ?_, os, bare⟩
      cases q : H b with
      | none => exact un.keep b o e q (fun z => absurd (show b ∈ ([] : List Addr) from z) (by simp)) (by simp)
      | some v =>
        rcases hO b with z | ⟨ob, xs, z⟩
        · rw [q] at z
          cases z
        · obtain ⟨g1, _⟩ := hok b _ z
          obtain ⟨g2, _⟩ := hok' b _ (un.frzs b ob _ z)
          rw [e] at g1
          cases g1
          exact g2
  cases hk : K.lookup a with
  | some o =>
    have e := KX a o hk
    rw [ha] at e
    cases e
    refine key (fun _ => none) (fun _ => .inl rfl) (.inr ⟨_, us.toArray, _, hk, rfl, rfl, rfl, ?_, by simpa using rv⟩) (fun b u z => nomatch z) (fun b z => absurd rfl z) fun z => absurd rfl z
    rw [List.size_toArray, hlen]
    exact hz
  | none =>
    let T : HO := .frz { cls := .type "list", data := .seq us.toArray } (.lst (ns.map V.int))
    refine key (fun b => if b = a then some T else none) (fun b => ?_) (.inl (.inr ⟨_, if_pos rfl⟩)) (fun b u z => ?_) (fun b z => ?_) fun _ => hk
    · by_cases hb : b = a
      · exact .inr ⟨_, _, if_pos hb⟩
      · exact .inl (if_neg hb)
    · by_cases hb : b = a
      · subst hb
        have z' := (if_pos rfl).symm.trans z
        cases z'
        exact ⟨ha, by rw [List.length_map]; exact hz, us, _, rv, ha⟩
      · have z' := (if_neg hb).symm.trans z
        cases z'
    · by_cases hb : b = a
      · exact hb
      · exact absurd (if_neg hb) z

theorem walk_g {l : PySem.W.OpenLaw} {n k : Nat} {q : Program} {loose : List Str} {XP : (Str → Option Value) → Heap → Prop} {YP : World → Heap → Prop} {d : DefRec} {K : Params → PySem.W.Frag} {sp : PySem.W.Frag → Sp}
    (hn : l.most = some n) (hn2 : n ≤ sizeLine) (hdf : d.params.defaults = []) (hr : Room k callerA) (hY : ∀ (w : World) (h : Heap), YP w h → (K w.params).In h)
    (F : ∀ (w : World) (mg : Str → Option Value) (fa : Addr) (h : Heap), (K w.params).In h → h.Ns mainGlobals mg → mg d.name = some (.ref fa) →
      ∀ base : Heap, (K w.params).In base → base.Ns mainGlobals mg → FnG l.prog w (K w.params) mg base k fa (sp (K w.params)))
    (hsp : ∀ (K : PySem.W.Frag) (H : Hp) (a : Addr) (ns : List Int), ns.length ≤ n → SqL K H a (ns.map V.int) → sp K [.ref a] H (fun v _ => v = .bl true) E0) :
    PySem.W.WalkO q loose XP YP l.row.toRowW d [] (fun f vs => PySem.call f vs) := by
  refine Att.attach_call hn hdf fun w s₀ s₁ mg mb fa o pm cd doc a vs ns G Y ho hd hcd hmg hobj hints hlen hg => ?_
  have KX := hY w _ Y
  exact law_callg KX G.T.g G.T.b G.T.builtins G.T.nolimit hg hobj hints (Nat.le_trans hlen hn2) hr (F w mg fa _ KX G.T.g hmg) fun H hS => hsp _ H a ns hlen hS
end MH
/-! The mathematics: texts in order, names, menus. -/
namespace MH
open PySem PySem.Spec PyProof.Rows L2

/-! ### the order of texts -/
def ltS (x y : Str) : Prop := x.cps.toList < y.cps.toList
instance (x y : Str) : Decidable (ltS x y) := inferInstanceAs (Decidable (x.cps.toList < y.cps.toList))
theorem lst_lt_irrefl : ∀ a : List Nat, ¬ a < a := fun a h => List.lt_irrefl a h
theorem ltS_irrefl (x : Str) : ¬ ltS x x := lst_lt_irrefl _
theorem ltS_trans {x y z : Str} (a : ltS x y) (b : ltS y z) : ltS x z := List.lt_trans a b
theorem ltS_tri (x y : Str) : ltS x y ∨ x = y ∨ ltS y x := by
  by_cases h : ltS x y
  · exact .inl h
  · by_cases h2 : ltS y x
    · exact .inr (.inr h2)
    · refine .inr (.inl ?_)
      have e : x.cps.toList = y.cps.toList := List.le_antisymm (List.not_lt.mp h2) (List.not_lt.mp h)
      exact Str.ext' (Array.toList_inj.mp e)
theorem risingS_pw : ∀ (p : Str) (l : List Str), risingS p l = true → l.Pairwise (fun a b => ¬ ltS b a) ∧ ∀ x ∈ l, ¬ ltS x p
  | p, [], _ => ⟨List.Pairwise.nil, fun _ h => nomatch h⟩
  | p, x :: r, h => by
    have h' : (!ltCps x.cps.toList p.cps.toList && risingS x r) = true := h
    rw [Bool.and_eq_true, ltCps_eq] at h'
    obtain ⟨h1, h2⟩ := h'
    obtain ⟨q1, q2⟩ := risingS_pw x r h2
    have n1 : ¬ ltS x p := by
      intro z
      rw [decide_eq_true (show x.cps.toList < p.cps.toList from z)] at h1
      cases h1
    refine ⟨List.Pairwise.cons (fun y hy => q2 y hy) q1, fun y hy => ?_⟩
    rcases List.mem_cons.mp hy with rfl | hy
    · exact n1
    · intro z
      rcases ltS_tri x p with a | a | a
      · exact n1 a
      · subst a
        exact q2 y hy z
      · exact q2 y hy (ltS_trans z a)
theorem sortedS_pw : ∀ {l : List Str}, sortedS l = true → l.Pairwise (fun a b => ¬ ltS b a)
  | [], _ => List.Pairwise.nil
  | x :: r, h => List.Pairwise.cons (risingS_pw x r h).2 (risingS_pw x r h).1
/-- two arrangements in order of the same texts are one -/
theorem sorted_one {l m : List Str} (p : l.Perm m) (hl : sortedS l = true) (hm : sortedS m = true) : l = m :=
  p.eq_of_pairwise (fun a b _ _ h1 h2 => by
    rcases ltS_tri a b with z | z | z
    · exact absurd z h2
    · exact z
    · exact absurd z h1) (sortedS_pw hl) (sortedS_pw hm)
/-- in order and none twice: each before the next -/
theorem sorted_lt {l : List Str} (hn : l.Nodup) (h : sortedS l = true) : l.Pairwise ltS := by
  have a := sortedS_pw h
  have b : l.Pairwise (fun x y => x ≠ y) := hn
  refine (List.pairwise_and_iff.mpr ⟨a, b⟩).imp fun {x y} z => ?_
  rcases ltS_tri x y with q | q | q
  · exact q
  · exact absurd q z.2
  · exact absurd q z.1

/-! ### names -/
def letters : Str := "abcdefghijklmnopqrstuvwxyz"
def digits : Str := "0123456789"
def isL (c : Nat) : Bool := decide (c ∈ letters.cps.toList)
def isD (c : Nat) : Bool := decide (c ∈ digits.cps.toList)
def nameOk (z : Str) : Bool := decide (1 ≤ z.length) && (decide (z.length ≤ 8) && (isL (z.cps.toList.getD 0 0) && z.cps.toList.all fun c => isL c || isD c))
def pool : List Str := ["a", "a0", "aa", "ab", "b", "b9", "ba", "c", "d", "k1", "q", "zz", "zzzzzzzz"]
theorem pool_ok : ∀ z ∈ pool, nameOk z = true := by decide +kernel
theorem pool_nd : pool.Nodup := by decide +kernel

/-! ### menus -/
def menusUp (l : List Str) : List (List Str) := l.foldl (fun acc x => acc ++ acc.map (· ++ [x])) [[]]
theorem menusUp_snoc (l : List Str) (x : Str) : menusUp (l ++ [x]) = menusUp l ++ (menusUp l).map (· ++ [x]) := by
  unfold menusUp
  rw [List.foldl_append]
  rfl
theorem foldl_head (f : List (List Str) → Str → List (List Str)) (hf : ∀ a r x, ∃ r', f (a :: r) x = a :: r') : ∀ (l : List Str) (a : List Str) (r : List (List Str)), ∃ r', l.foldl f (a :: r) = a :: r'
  | [], a, r => ⟨r, rfl⟩
  | x :: l, a, r => by
    obtain ⟨r', e⟩ := hf a r x
    rw [List.foldl_cons, e]
    exact foldl_head f hf l a r'
theorem menusUp_sub : ∀ (n : Nat) (l : List Str), l.length = n → ∀ c ∈ menusUp l, c.Sublist l
  | 0, l, h, c, hc => by
    obtain rfl : l = [] := List.length_eq_zero_iff.mp h
    obtain rfl : c = [] := by simpa [menusUp] using hc
    exact List.Sublist.refl _
  | n + 1, l, h, c, hc => by
    obtain ⟨m, x, rfl⟩ : ∃ m x, l = m ++ [x] := ⟨l.dropLast, l.getLast (by intro e; rw [e] at h; cases h), (List.dropLast_concat_getLast _).symm⟩
    rw [menusUp_snoc, List.mem_append, List.mem_map] at hc
    have hm : m.length = n := by
      rw [List.length_append] at h
      exact Nat.succ.inj h
    rcases hc with hc | ⟨d, hd, rfl⟩
    · exact (menusUp_sub n m hm c hc).trans (List.sublist_append_left _ _)
    · exact (menusUp_sub n m hm d hd).append (List.Sublist.refl _)
/-- all menus but the empty one -/
def menusOf (l : List Str) : List (List Str) := (menusUp l).tail
theorem menusUp_len : ∀ (n : Nat) (l : List Str), l.length = n → (menusUp l).length = 2 ^ n
  | 0, l, h => by
    obtain rfl : l = [] := List.length_eq_zero_iff.mp h
    rfl
  | n + 1, l, h => by
    obtain ⟨m, x, rfl⟩ : ∃ m x, l = m ++ [x] := ⟨l.dropLast, l.getLast (by intro e; rw [e] at h; cases h), (List.dropLast_concat_getLast _).symm⟩
    have hm : m.length = n := by
      rw [List.length_append] at h
      exact Nat.succ.inj h
    rw [menusUp_snoc, List.length_append, List.length_map, menusUp_len n m hm, Nat.pow_succ]
    omega
theorem menusUp_ne : ∀ (n : Nat) (l : List Str), l.length = n → ∃ r, menusUp l = [] :: r ∧ ∀ c ∈ r, c ≠ []
  | 0, l, h => by
    obtain rfl : l = [] := List.length_eq_zero_iff.mp h
    exact ⟨[], rfl, fun _ h => nomatch h⟩
  | n + 1, l, h => by
    obtain ⟨m, x, rfl⟩ : ∃ m x, l = m ++ [x] := ⟨l.dropLast, l.getLast (by intro e; rw [e] at h; cases h), (List.dropLast_concat_getLast _).symm⟩
    have hm : m.length = n := by
      rw [List.length_append] at h
      exact Nat.succ.inj h
    obtain ⟨r, e, hr⟩ := menusUp_ne n m hm
    refine ⟨r ++ (menusUp m).map (· ++ [x]), by rw [menusUp_snoc, e]; rfl, fun c hc => ?_⟩
    rcases List.mem_append.mp hc with hc | hc
    · exact hr c hc
    · obtain ⟨d, _, rfl⟩ := List.mem_map.mp hc
      simp
theorem menusOf_ok {l c : List Str} (h : c ∈ menusOf l) : c ≠ [] ∧ c.Sublist l := by
  obtain ⟨r, e, hr⟩ := menusUp_ne l.length l rfl
  have h' : c ∈ (menusUp l).tail := h
  refine ⟨?_, menusUp_sub l.length l rfl c (List.mem_of_mem_tail h')⟩
  rw [e] at h'
  exact hr c h'
end MH
/-! Data as repr shows it: its length, and what == and repr ask. -/
namespace MH
open PySem PySem.Spec PyProof.Rows L2
mutual
def cost : PyData → Nat
  | .none => 4
  | .bool _ => 5
  | .int _ => 101
  | .str x => 10 * x.length + 2
  | .list xs => costAll xs + 3
  | .tuple xs => costAll xs + 3
  | .dict _ => 0
def costAll : List PyData → Nat
  | [] => 0
  | x :: xs => cost x + 2 + costAll xs
end
mutual
def okD : PyData → Bool
  | .none => true
  | .bool _ => true
  | .int i => decide (i.natAbs < 10 ^ 100)
  | .str x => PyData.strOk x
  | .list xs => okDs xs
  | .tuple xs => okDs xs
  | .dict _ => false
def okDs : List PyData → Bool
  | [] => true
  | x :: xs => okD x && okDs xs
end
theorem strOk_lt {x : Str} (h : PyData.strOk x = true) : ∀ c ∈ x.cps.toList, c < 16 ^ 8 := by
  intro c hc
  unfold PyData.strOk at h
  rw [← Array.all_toList, List.all_eq_true] at h
  have := of_decide_eq_true (h c hc)
  omega
theorem okDs_len (xs : List PyData) : xs.length * 2 ≤ costAll xs := by
  induction xs with
  | nil => exact Nat.le_refl _
  | cons x xs ih =>
    show (xs.length + 1) * 2 ≤ cost x + 2 + costAll xs
    omega
mutual
theorem shown_le : ∀ d : PyData, okD d = true → d.shown.length ≤ cost d
  | .none, _ => by decide +kernel
  | .bool true, _ => by decide +kernel
  | .bool false, _ => by decide +kernel
  | .int i, h => by
    have q := int_text_length_le10 (k := 100) (by decide) (of_decide_eq_true (show decide (i.natAbs < 10 ^ 100) = true from h))
    show (Str.ofString (toString i)).length ≤ 101
    rw [PySem.ofString_length]
    exact q
  | .str x, h => by
    rw [PyData.shown]
    exact StrLaws.reprText_len x (strOk_lt h)
  | .list xs, h => by
    have q := shownAll_le xs h
    have q2 := listText_len_le (PyData.shownAll xs)
    rw [PyData.shown]
    show _ ≤ costAll xs + 3
    omega
  | .tuple xs, h => by
    have q := shownAll_le xs h
    have q2 := tupleText_len_le (PyData.shownAll xs)
    rw [PyData.shown]
    show _ ≤ costAll xs + 3
    omega
  | .dict _, h => nomatch h
theorem shownAll_le : ∀ xs : List PyData, okDs xs = true → ((PyData.shownAll xs).map (·.length)).sum + 2 * (PyData.shownAll xs).length ≤ costAll xs
  | [], _ => by simp [PyData.shownAll]
  | x :: xs, h => by
    have h' : (okD x && okDs xs) = true := h
    rw [Bool.and_eq_true] at h'
    have a := shown_le x h'.1
    have b := shownAll_le xs h'.2
    rw [PyData.shownAll, List.map_cons, List.sum_cons, List.length_cons]
    show _ ≤ cost x + 2 + costAll xs
    omega
end
mutual
theorem ok_show : ∀ d : PyData, okD d = true → d.showable = true
  | .none, _ => by simp only [PyData.showable]
  | .bool _, _ => by simp only [PyData.showable]
  | .int i, h => by
    have q := of_decide_eq_true (show decide (i.natAbs < 10 ^ 100) = true from h)
    rw [PyData.showable]
    refine decide_eq_true ?_
    by_cases z : i.natAbs = 0
    · rw [z]
      decide
    · rw [Nat.log2_lt z]
      exact Nat.lt_of_lt_of_le q (by decide +kernel)
  | .str _, _ => by simp only [PyData.showable]
  | .list xs, h => by
    rw [PyData.showable]
    exact ok_showAll xs h
  | .tuple xs, h => by
    rw [PyData.showable]
    exact ok_showAll xs h
  | .dict _, h => nomatch h
theorem ok_showAll : ∀ xs : List PyData, okDs xs = true → PyData.showableAll xs = true
  | [], _ => by simp only [PyData.showableAll]
  | x :: xs, h => by
    have h' : (okD x && okDs xs) = true := h
    rw [Bool.and_eq_true] at h'
    rw [PyData.showableAll, ok_show x h'.1, ok_showAll xs h'.2]
    rfl
end
mutual
theorem ok_lay : ∀ d : PyData, okD d = true → d.canLay0 = true
  | .none, _ => by simp only [PyData.canLay0]
  | .bool _, _ => by simp only [PyData.canLay0]
  | .int _, _ => by simp only [PyData.canLay0]
  | .str x, h => by
    rw [PyData.canLay0]
    exact h
  | .list xs, h => by
    rw [PyData.canLay0]
    exact ok_layAll xs h
  | .tuple xs, h => by
    rw [PyData.canLay0]
    exact ok_layAll xs h
  | .dict _, h => nomatch h
theorem ok_layAll : ∀ xs : List PyData, okDs xs = true → PyData.canLayAll0 xs = true
  | [], _ => by simp only [PyData.canLayAll0]
  | x :: xs, h => by
    have h' : (okD x && okDs xs) = true := h
    rw [Bool.and_eq_true] at h'
    rw [PyData.canLayAll0, ok_lay x h'.1, ok_layAll xs h'.2]
    rfl
end
/-- what repr of data asks -/
structure ShowOk (K : PySem.W.Frag) (H : Hp) (a : Addr) (d : PyData) : Prop where
  dp : Dp K H (.ref a) d
  sh : d.showable = true
  nd : d.hasDict = false
  dep : d.depth ≤ 60
  len : d.shown.length ≤ sizeLine
theorem show_of {K : PySem.W.Frag} {H : Hp} {a : Addr} {d : PyData} (h : Dp K H (.ref a) d) (ok : okD d = true) (h1 : d.depth ≤ 60) (h2 : cost d ≤ 100000) : ShowOk K H a d :=
  ⟨h, ok_show d ok, PyData.hasDict_of_canLay d (ok_lay d ok), h1, Nat.le_trans (shown_le d ok) (Nat.le_trans h2 (by decide))⟩
theorem shaped_of {d : PyData} (ok : okD d = true) (h : d.depth ≤ 64) : SeqAt.shaped d = true := by
  unfold SeqAt.shaped
  rw [ok_lay d ok, decide_eq_true h]
  rfl
/-! texts in a row -/
theorem okDs_strs {ss : List Str} (h : ∀ z ∈ ss, PyData.strOk z = true) : okDs (ss.map PyData.str) = true := by
  induction ss with
  | nil => rfl
  | cons z r ih =>
    show (PyData.strOk z && okDs (r.map PyData.str)) = true
    rw [h z List.mem_cons_self, ih fun y hy => h y (List.mem_cons_of_mem _ hy)]
    rfl
theorem costAll_strs {ss : List Str} {n : Nat} (h : ∀ z ∈ ss, z.length ≤ n) : costAll (ss.map PyData.str) ≤ ss.length * (10 * n + 4) := by
  induction ss with
  | nil => exact Nat.zero_le _
  | cons z r ih =>
    show 10 * z.length + 2 + 2 + costAll (r.map PyData.str) ≤ (r.length + 1) * (10 * n + 4)
    have a := h z List.mem_cons_self
    have b := ih fun y hy => h y (List.mem_cons_of_mem _ hy)
    rw [Nat.add_mul]
    omega
theorem depth_strs : ∀ ss : List Str, PyData.depthAll (ss.map PyData.str) = 0
  | [] => by rw [List.map_nil, PyData.depthAll]
  | z :: r => by rw [List.map_cons, PyData.depthAll, depth_strs r, PyData.depth]; rfl
theorem dp_strs {K : PySem.W.Frag} {H : Hp} : ∀ ss : List Str, DpAll K H (ss.map V.str) (ss.map PyData.str)
  | [] => .nil
  | z :: r => .cons (.str z) (dp_strs r)
theorem isL_le {c : Nat} (h : isL c = true) : c < 128 := by
  have q : ∀ c ∈ letters.cps.toList, c < 128 := by decide +kernel
  exact q c (of_decide_eq_true h)
theorem isD_le {c : Nat} (h : isD c = true) : c < 128 := by
  have q : ∀ c ∈ digits.cps.toList, c < 128 := by decide +kernel
  exact q c (of_decide_eq_true h)
theorem nameOk_len {z : Str} (h : nameOk z = true) : z.length ≤ 8 := by
  unfold nameOk at h
  simp only [Bool.and_eq_true, decide_eq_true_eq] at h
  exact h.2.1
theorem nameOk_str {z : Str} (h : nameOk z = true) : PyData.strOk z = true := by
  unfold nameOk at h
  simp only [Bool.and_eq_true, decide_eq_true_eq] at h
  have q := h.2.2.2
  rw [List.all_eq_true] at q
  unfold PyData.strOk
  rw [← Array.all_toList, List.all_eq_true]
  intro c hc
  refine decide_eq_true ?_
  have w := q c hc
  rw [Bool.or_eq_true] at w
  rcases w with w | w
  · have := isL_le w
    omega
  · have := isD_le w
    omega
end MH
/-! A tuple taken from the back: t[::-1]. -/
namespace MH
open PySem PySem.Spec PyProof.Rows L2 PySem.SeqAt HT
section
variable {prog : Program} {w : World} {A : Around} {E : Value → Shared → Prop} {s : Shared}
theorem applied_back {sl : Addr} {vk : Value} {n : Nat} {Q : Int × Int × Nat → Shared → Prop} (hs : s.heap.IsSliceOf sl .none .none vk) (pk : IsPart vk (some (-1)))
    (h : Q ((n : Int) - 1, -1, n) s) : wpAny (model prog w) A (Builtin.Slice.sliceApplied (.ref sl) (pure (n : Int))) Q E s := by
  obtain ⟨os, hos, hcs, hds⟩ := id hs
  unfold Builtin.Slice.sliceApplied Builtin.Slice.sliceFields
  refine wpAny_bind (wpAny_bind (wpAny_field hos hds (x := .none) rfl (wpAny_bind (wpAny_field hos hds (x := .none) rfl (wpAny_bind (wpAny_field hos hds (x := vk) rfl (wpAny_pure ?_)))))))
  refine wpAny_bind (slicePart_ pk ?_)
  show wpAny _ _ (if ((-1 : Int) == 0) = true then _ else _) _ _ s
  rw [if_neg (by decide)]
  refine wpAny_bind (slicePart_none (wpAny_bind (slicePart_none (wpAny_bind (wpAny_pure ?_)))))
  have e : Builtin.Slice.sliceAdjust none none (-1) (n : Int) = ((n : Int) - 1, -1) := by
    unfold Builtin.Slice.sliceAdjust
    simp
  show wpAny _ _ (match Builtin.Slice.sliceAdjust none none (-1) (n : Int) with | (lo, hi) => pure (lo, (-1 : Int), Builtin.Slice.slicePlaces lo hi (-1))) _ _ s
  rw [e]
  have e2 : Builtin.Slice.slicePlaces ((n : Int) - 1) (-1) (-1) = n := by
    unfold Builtin.Slice.slicePlaces
    simp
    try omega
  show wpAny _ _ (pure ((n : Int) - 1, (-1 : Int), Builtin.Slice.slicePlaces ((n : Int) - 1) (-1) (-1))) _ _ s
  rw [e2]
  exact wpAny_pure h
theorem filter_congr {α β : Type} {f g : α → Option β} : ∀ {l : List α}, (∀ x ∈ l, f x = g x) → l.filterMap f = l.filterMap g
  | [], _ => rfl
  | x :: l, h => by
    rw [List.filterMap_cons, List.filterMap_cons, h x List.mem_cons_self, filter_congr fun y hy => h y (List.mem_cons_of_mem _ hy)]
theorem pick_back (xs : Array Value) : ((List.range xs.size).filterMap fun (m : Nat) => xs[((xs.size : Int) - 1 + (m : Int) * (-1)).toNat]?).toArray = xs.toList.reverse.toArray := by
  have e : (List.range xs.size).filterMap (fun (m : Nat) => xs[((xs.size : Int) - 1 + (m : Int) * (-1)).toNat]?) = ((List.range xs.size).map (fun k => xs.size - 1 - k)).filterMap (xs[·]?) := by
    rw [List.filterMap_map]
    refine filter_congr fun m hm => ?_
    have := List.mem_range.mp hm
    have e2 : ((xs.size : Int) - 1 + (m : Int) * (-1)).toNat = xs.size - 1 - m := by omega
    rw [e2]
    rfl
  rw [e, PySem.W.krv_range, List.filterMap_reverse, PySem.W.krv_all]
theorem getItem_back {t sl : Addr} {items : Array Value} {vk : Value} {Q : Value → Shared → Prop} (ht : IsTup s.heap t items) (hs : s.heap.IsSliceOf sl .none .none vk) (pk : IsPart vk (some (-1)))
    (h : Q (.ref s.heap.objs.size) { s with heap := s.heap.push { cls := .type "tuple", data := .seq items.toList.reverse.toArray } })
    (hsz : items.size ≤ sizeLine) : wpAny (model prog w) A (getItem (.ref t) (.ref sl)) Q E s := by
  have htake : sizeOk (.seq items.toList.reverse.toArray) := by
    show items.toList.reverse.toArray.size ≤ sizeLine
    rw [List.size_toArray, List.length_reverse, Array.length_toList]
    exact hsz
  obtain ⟨os, hos, hcs, hds⟩ := id hs
  have hTs : s.TypeIs (.ref sl) "slice" := ⟨os, hos, hcs⟩
  unfold getItem
  try with_reducible refine wpAny_holding ?_
  first | refine wpAny_bind (wpAny_pure ?_) | skip
  refine wpAny_bind (wpAny_sequenceKey ht.typeIs (by decide) ?_)
  refine wpAny_bind (wpAny_callSpecial?_slot (name := Str.ofString "__getitem__") ht.typeIs PyProof.Rows.slot_tuple_getitem
    (wpAny_call_entry PyProof.Rows.slot_tuple_getitem ht.typeIs entry_tuple_getitem ?_ (args_tuple_getitem _ _)))
  show wpAny _ _ (Builtin.Tuple.tupleItemsOf (.ref t) >>= _) _ _ s
  refine wpAny_bind (tupleItemsOf_ ht ?_)
  refine wpAny_bind (wpAny_typeOf hTs ?_)
  rw [if_pos (by decide)]
  refine wpAny_bind (applied_back hs pk ?_)
  have hno : ¬ (((items.size : Int) - 1 == 0 && (-1 : Int) == 1 && items.size == items.size) = true) := by
    rw [show ((-1 : Int) == 1) = false from rfl, Bool.and_false, Bool.false_and]
    exact Bool.false_ne_true
  show wpAny _ _ (if ((items.size : Int) - 1 == 0 && (-1 : Int) == 1 && items.size == items.size) = true then _ else _) _ _ s
  rw [if_neg hno, pick_back]
  first
    | exact wpAny_bind (m := Builtin.Tuple.tupleExact _) (wpAny_newObj_type (wpAny_pure ⟨_, rfl, wpAny_pure h⟩) htake)
    | exact wpAny_bind (m := Builtin.Tuple.tupleExact _) (wpAny_newObj_type (wpAny_bind (wpAny_pure (wpAny_pure ⟨_, rfl, wpAny_pure h⟩))) htake)
    | exact wpAny_bind (wpAny_bind (m := Builtin.Tuple.tupleExact _) (wpAny_newObj_type (wpAny_pure (wpAny_pure ⟨_, rfl, wpAny_pure h⟩)) htake))
    | exact wpAny_bind (wpAny_bind (m := Builtin.Tuple.tupleExact _) (wpAny_newObj_type (wpAny_pure ⟨_, rfl, wpAny_pure h⟩) htake))
end
def tBackT (K : PySem.W.Frag) (te : TE) : TE := fun σ H Q => te σ H fun x H1 => ∃ a xs, x = .ref a ∧ SqT K H1 a xs ∧ ∀ p, H1 p = none → Q (.ref p) (upd H1 p (.tup xs.reverse))
/-- t[::-1] -/
theorem pe_backT {X : Cx} {e : Expr} {te : TE} {j : Nat} {pos p2 p3 p4 : Pos} (he : PE X e te) : PE X (.Subscript e (.Slice none none (some (.UnaryOp .USub (.Constant (.int 1) j p4) p3)) p2) pos) (tBackT X.K te) := by
  refine ⟨fun pins s σ H Q I h => ?_⟩
  refine Subscript_ (thn (he.run pins s σ H _ I h) fun v s1 ⟨x, H1, I1, r1, a, xs, ex, hx, q⟩ => ?_)
  subst ex
  obtain rfl : v = Value.ref a := r1
  refine wpAny_Slice ?_
  rw [evalPart_none, evalPart_some]
  refine wpAny_pure (wpAny_pure ?_)
  refine thn ((pe_un un_neg pe_int).run pins s1 σ H1 (fun y H2 => y = .int (-1) ∧ H2 = H1) I1 ⟨1, rfl, rfl, rfl⟩) fun vk s2 ⟨y, H2, I2, ry, ey, eH⟩ => ?_
  subst ey
  subst eH
  obtain ⟨tk, rfl⟩ := ry
  have I3 : Inv X pins σ H2 { s2 with heap := s2.heap.push { cls := .type "slice", data := .fields #[.none, .none, .int (-1) tk] } } := I2.kept (t' := s2.toks) fun b ob q => Heap.get?_push_of_some _ q
  obtain ⟨its, r, ht, hz⟩ := I3.tuple hx
  have hsl := Heap.IsSliceOf.new s2.heap .none .none (.int (-1) tk)
  refine tail_any (ops := [.ref a, .ref s2.heap.objs.size]) ht.typeIs PyProof.Rows.slot_tuple_getitem.lookup (getItem_back ht hsl (.int _ _) ?_ (by rw [List.size_toArray, ← r.length]; exact hz)) (by with_unfolding_all rfl)
  refine ⟨.ref _, _, I3.laid (t' := s2.toks) (o := .tup xs.reverse) (fun b ob q => Heap.get?_push_of_some _ q) (Nat.le_refl _) ?_, rfl, q _ (I3.hok.fresh (Nat.le_refl _))⟩
  exact ⟨by rw [List.length_reverse]; exact hz, _, r.reverse, IsTup.new _ _⟩
end MH
/-! Own special methods of instances: -o, o == p, o != p, str(o). -/
namespace MH
open PySem PySem.Spec PyProof.Rows L2

section
variable {prog : Program} {w : World} {M : Model} {A : Around} {E : Value → Shared → Prop} {s : Shared} {K : PySem.W.Frag} {x C f L : Addr} {h₀ : Heap} {m : Str → Option Value} {ox : Obj} {od : Option Obj} {b tb : Value}
open PySem.W in
theorem ifBound_objNe {args : List Value} {Q : Option Value → Shared → Prop} (X : K.In s.heap) (I : InstAt s.heap x ox C od) (hs : findIn K (.ref C) "__ne__" = some (some (.builtin "object.__ne__")))
    (h : wpAny M A (call (.builtin "object.__ne__") (.ref x :: args)) (fun v => Q (some v)) E s) : wpAny M A (callSpecialIfBound? (.ref x) "__ne__" args) Q E s := by
  simp only [callSpecialIfBound?, bindSpecialIfBound?]
  refine wpAny_holding (wpAny_bind (wpAny_bind (wpAny_bind (I.type.here ((looks_findIn X hs).here ?_)))))
  refine wpAny_bind (wpAny_askSetting (wpAny_ite ?_))
  have fin : wpAny M A (call (.builtin "object.__ne__") ([.ref x] ++ args) >>= fun v => pure (some v)) Q E s := wpAny_bind (wpAny_mono h (fun v s' h' => wpAny_pure h') fun _ _ h' => h')
  split
  · exact wpAny_bind (wpAny_of_eq (F.cmp_object.ne.bind _) (wpAny_pure (by exact fin)))
  · exact wpAny_tryCatch (wpAny_bind (wpAny_of_eq (F.cmp_object.ne.bind _) (wpAny_pure (by exact fin))))
open PySem.W Builtin in
theorem entry_ne {Q : Fin → Shared → Prop} (hu : A.units < cLine) (X : K.In s.heap) (I : InstAt s.heap x ox C od) (hs : findIn K (.ref C) "__eq__" = some (some (.ref f))) (hf : isFn K (.ref f) = true)
    (h : wpAny M A (call (.ref f) [.ref x, b]) (fun v s' => ∃ k, v = .bool k ∧ Q (.done (.ret (.bool (!k)))) s') E s) : wpAny M A (Builtin.«object.__ne__» ⟨[.ref x, b], []⟩) Q E s := by
  unfold Builtin.«object.__ne__»
  repeat (first
    | with_reducible refine wpAny_cRoomFor hu ?_
    | (refine wpAny_bind (m := callSpecialIfBound? (.ref x) (Str.ofString "__eq__") [b]) (ifBound_K X I hs hf (wpAny_mono h (fun r s' hr => by
          obtain ⟨k, rfl, hq⟩ := hr
          repeat (first | exact hq | exact wpAny_pure hq | exact wpAny_truthy_bool hq | (refine wpAny_bind (m := truthy (.bool _)) (wpAny_truthy_bool ?_)) | wp_step)) fun _ _ e => e)))
    | wp_step)
open PySem.W in
theorem ne_K {Q : Value → Shared → Prop} (hu : A.units < cLine) (hu1 : A.in1.units < cLine) (F₀ : Fr h₀ L s.heap m) (X₀ : K.In h₀) (I : InstAt s.heap x ox C od) (hb : Looks (model prog w) s.heap (typeOf b) tb) (hn : notFirst K C tb = true)
    (hne : findIn K (.ref C) "__ne__" = some (some (.builtin "object.__ne__"))) (hm : mroIn K C (.type "object") = some true) (hs : findIn K (.ref C) "__eq__" = some (some (.ref f))) (hf : isFn K (.ref f) = true)
    (h : wpAny (model prog w) A.in1 (call (.ref f) [.ref x, b]) (fun v s' => ∃ k, v = .bool k ∧ Q (.bool (!k)) s') E s) : wpAny (model prog w) A (richCompare .NotEq (.ref x) b) Q E s := by
  have X := X₀.keeps F₀.keep
  have one : wpAny (model prog w) A (tryCompare (.ref x) "__ne__" b) (fun r s' => ∃ v, r = some v ∧ Q v s') E s := by
    unfold tryCompare
    refine wpAny_bind (ifBound_objNe X I hne (wpAny_call (codeAny_call_builtin F.cmp_object.ne.plain F.cmpEntry_ne (check_slot F.cmpKind_ne F.cmpSplit_ne (I.type.andThen (looks_mroIn X hm)) (F.cmpArgs_ne _ _)
      (entry_ne (A := A.in1) hu1 X I hs hf (wpAny_mono h (fun v s' hv => ?_) fun _ _ e => e))))))
    obtain ⟨k, rfl, hq⟩ := hv
    first | exact ⟨k, rfl, wpAny_pure ⟨_, rfl, hq⟩⟩ | exact ⟨k, rfl, wpAny_pure (wpAny_pure ⟨_, rfl, hq⟩)⟩ | exact ⟨k, rfl, ⟨_, rfl, hq⟩⟩
  unfold richCompare
  simp only [oneThing_ref]
  refine wpAny_holding (wpAny_bind (wpAny_cRoomFor hu ?_))
  rw [cmpInfo_NotEq]
  dsimp only
  refine wpAny_bind (I.type.here (wpAny_bind (hb.here ?_)))
  split
  · rename_i q
    have e : subIn K tb (.ref C) = some false := by
      rcases Bool.or_eq_true_iff.mp hn with e | e
      · rw [beq_iff_eq.mp e] at q; simp at q
      · exact beq_iff_eq.mp e
    refine wpAny_bind ((looks_subIn X e).here ?_)
    simp only [Bool.false_eq_true, if_false]
    refine wpAny_bind (wpAny_mono one (fun r s' z => ?_) fun _ _ e => e)
    obtain ⟨v, rfl, hq⟩ := z
    exact wpAny_pure hq
  · refine wpAny_bind (wpAny_pure ?_)
    simp only [Bool.false_eq_true, if_false]
    refine wpAny_bind (wpAny_mono one (fun r s' z => ?_) fun _ _ e => e)
    obtain ⟨v, rfl, hq⟩ := z
    exact wpAny_pure hq
end

section
variable {X : Cx} {CX : CXT} {k : Nat} {C f : Addr} {fd : FuncData} {ps : List Str} {sp : Sp} {E : XK}
/-- a def called from a deeper place (a builtin calls it) -/
theorem run_A {pins : List (Addr × Obj)} {σ : L2.St} {H : Hp} {s : Shared} {Q : VK} {A : Around} {us : List Value} {vs : List V} (F : FnOk X.prog X.w X.K X.mg X.base CX k f fd ps sp) (hr : Room k A) (e0 : Env0 X.prog X.w X.K X.mg X.base A X.stack s H)
    (hb : Binds X.K fd ps []) (hx : Passes CX X E) (I : Inv X pins σ H s) (r : Vals vs us) (h : sp vs H Q E) : wpAny (model X.prog X.w) A (call (.ref f) us) (EP X pins σ Q) X.xe s := by
  have hl : (us ++ []).length = ps.length := by rw [List.append_nil, ← r.length, F.len _ _ _ _ h]
  have hb2 := hb s us I.kIn hl
  rw [List.append_nil] at hb2
  refine wpAny_call (codeAny_mono (F.run A X.stack s H ⟨us, []⟩ us vs Q E hr e0 hb2 r h) fun r s' hq => ?_)
  cases r with
  | error e => exact hx pins σ H s e s' I hq
  | ok fl =>
    cases fl with
    | ret u => exact I.after hq
    | next => exact False.elim hq
    | brk => exact False.elim hq
    | cont => exact False.elim hq
/-- what len asks of a list or tuple (call_len_seq), named -/
abbrev rLenSq (K : PySem.W.Frag) : List V → Hp → VK → Prop := fun xs H Q => ∃ p ys, xs = [V.ref p] ∧ (SqL K H p ys ∨ SqT K H p ys) ∧ Q (V.int (ys.length : Nat)) H
/-- -o -/
def rUO (C : Addr) (sp : Sp) (E : XK) : V → Hp → VK → Prop := fun x H Q => ∃ a dx fs, x = .ref a ∧ H a = some (.ins C dx fs) ∧ sp [.ref a] H Q E
theorem un_negO (hm : Meth X.K C "__neg__" f) (F : FnOk X.prog X.w X.K X.mg X.base CX k f fd ps sp) (hr : Room k X.A) (hb : Binds X.K fd ps []) (hx : Passes CX X E) : UnR X (unaryOp .USub) (rUO C sp E) := by
  intro pins s σ H x v Q I rx h
  obtain ⟨a, dx, fs, rfl, ha, q⟩ := h
  obtain rfl : v = Value.ref a := rx
  obtain ⟨mA, J, _⟩ := ins_get I.hok ha
  obtain ⟨od, J, _⟩ := J.look
  obtain ⟨m, hF⟩ := I.fr
  exact PySem.W.ksp_neg hF I.ok.mod.kin J hm.at_ hm.fn (run_A F hr I.env0 hb hx I (show Vals [V.ref a] [Value.ref a] from .cons rfl .nil) q)
/-- o == p -/
def rOO (C : Addr) (sp : Sp) (E : XK) : R2 := fun x y H Q => ∃ a b dx dy fs gs, x = .ref a ∧ y = .ref b ∧ H a = some (.ins C dx fs) ∧ H b = some (.ins C dy gs) ∧ sp [.ref a, .ref b] H (fun v H' => (∃ k, v = .bl k) ∧ Q v H') E
theorem op_eqO (hm : Meth X.K C "__eq__" f) (F : FnOk X.prog X.w X.K X.mg X.base CX k f fd ps sp) (hr : Room k X.A) (hb : Binds X.K fd ps []) (hx : Passes CX X E) : OpR X (compareOp .Eq) (rOO C sp E) := by
  intro pins s σ H x y v u Q I rx ry h
  obtain ⟨a, b, dx, dy, fs, gs, rfl, rfl, ha, hb', q⟩ := h
  obtain rfl : v = Value.ref a := rx
  obtain rfl : u = Value.ref b := ry
  obtain ⟨mA, J, _⟩ := ins_get I.hok ha
  obtain ⟨mB, J', _⟩ := ins_get I.hok hb'
  obtain ⟨od, J, _⟩ := J.look
  obtain ⟨od', J', _⟩ := J'.look
  obtain ⟨m, hF⟩ := I.fr
  refine PySem.W.cmp_K (op := .Eq) (tb := .ref C) hr.units0 hF I.ok.mod.kin J J'.type (by simp [PySem.W.notFirst]) hm.at_ hm.fn ?_
  refine wpAny_mono (run_A F hr I.env0 hb hx I (show Vals [V.ref a, V.ref b] [Value.ref a, Value.ref b] from .cons rfl (.cons rfl .nil)) q) (fun r s' z => ?_) fun _ _ e => e
  obtain ⟨v, H', I', rv, ⟨k, rfl⟩, q'⟩ := z
  obtain rfl : r = Value.bool k := rv
  exact ⟨.bl k, H', I', rfl, q'⟩
/-- o != p by the own == -/
def rONe (C : Addr) (sp : Sp) (E : XK) : R2 := fun x y H Q => ∃ a b dx dy fs gs, x = .ref a ∧ y = .ref b ∧ H a = some (.ins C dx fs) ∧ H b = some (.ins C dy gs) ∧ sp [.ref a, .ref b] H (fun v H' => ∃ k, v = .bl k ∧ Q (.bl (!k)) H') E
theorem op_neO (hm : Meth X.K C "__eq__" f) (hne : PySem.W.findIn X.K (.ref C) "__ne__" = some (some (.builtin "object.__ne__"))) (ho : PySem.W.mroIn X.K C (.type "object") = some true)
    (F : FnOk X.prog X.w X.K X.mg X.base CX k f fd ps sp) (hr : Room (k + 1) X.A) (hb : Binds X.K fd ps []) (hx : Passes CX X E) : OpR X (compareOp .NotEq) (rONe C sp E) := by
  intro pins s σ H x y v u Q I rx ry h
  obtain ⟨a, b, dx, dy, fs, gs, rfl, rfl, ha, hb', q⟩ := h
  obtain rfl : v = Value.ref a := rx
  obtain rfl : u = Value.ref b := ry
  obtain ⟨mA, J, _⟩ := ins_get I.hok ha
  obtain ⟨mB, J', _⟩ := ins_get I.hok hb'
  obtain ⟨od, J, _⟩ := J.look
  obtain ⟨od', J', _⟩ := J'.look
  obtain ⟨m, hF⟩ := I.fr
  refine ne_K (tb := .ref C) hr.units0 hr.in1.units0 hF I.ok.mod.kin J J'.type (by simp [PySem.W.notFirst]) hne ho hm.at_ hm.fn ?_
  refine wpAny_mono (run_A F hr.in1 I.env0.in1 hb hx I (show Vals [V.ref a, V.ref b] [Value.ref a, Value.ref b] from .cons rfl (.cons rfl .nil)) q) (fun r s' z => ?_) fun _ _ e => e
  obtain ⟨v, H', I', rv, k, rfl, q'⟩ := z
  obtain rfl : r = Value.bool k := rv
  exact ⟨k, rfl, .bl (!k), H', I', rfl, q'⟩
/-- str(o) -/
def rStrO (C : Addr) (sp : Sp) (E : XK) : List V → Hp → VK → Prop := fun xs H Q => ∃ a dx fs, xs = [.ref a] ∧ H a = some (.ins C dx fs) ∧ sp [.ref a] H (fun v H' => (∃ z, v = .str z) ∧ Q v H') E
theorem call_strO (hm : Meth X.K C "__str__" f) (F : FnOk X.prog X.w X.K X.mg X.base CX k f fd ps sp) (hr : Room (k + 2) X.A) (hb : Binds X.K fd ps []) (hx : Passes CX X E) : CallR X (.type "str") (rStrO C sp E) := by
  intro pins s σ H xs us Q I r h
  obtain ⟨a, dx, fs, rfl, ha, q⟩ := h
  obtain ⟨u, rfl, ru⟩ := vals1 r
  obtain rfl : u = Value.ref a := ru
  obtain ⟨mA, J, _⟩ := ins_get I.hok ha
  obtain ⟨od, J, _⟩ := J.look
  refine PySem.W.kso_call hr.in1.in1.units0 I.kIn J hm.at_ hm.fn ?_
  refine wpAny_mono (run_A F hr.in1.in1 I.env0.in1.in1 hb hx I (show Vals [V.ref a] [Value.ref a] from .cons rfl .nil) q) (fun r s' z => ?_) fun _ _ e => e
  obtain ⟨v, H', I', rv, ⟨z, rfl⟩, q'⟩ := z
  obtain ⟨t, rfl⟩ := rv
  exact ⟨.str z, H', I', ⟨t, rfl⟩, q'⟩
/-- o.m(), m a def with a star parameter -/
theorem pe_methR0 {o : Expr} {ta : TE} {m : Str} {apos pos : Pos} {pl : Sem Bool} (he : PE X o ta) (c : Cls X.K C) (hm : Meth X.K C m f) (F : FnR X.prog X.w X.K X.mg X.base CX k f sp) (hr : Room k X.A) (hx : Passes CX X E)
    (ht : eval (.Call (.Attribute o m apos) [] [] pos) X.env = (do
      let ov ← eval o X.env
      standAt apos.atName
      let (f, first) ← holding [ov] (getMethod ov m pl)
      callWith pos f first (backTo pos (starEach [] X.env)) (backToKw pos (keywordEach [] X.env))) := by rfl) :
    PE X (.Call (.Attribute o m apos) [] [] pos) (tMethR C m sp E ta tNil) := by
  refine ⟨fun pins s σ H Q I h => ?_⟩
  refine PySem.W.methodCall_KW (pl := pl) (thn (he.run pins s σ H _ I h) fun u s1 ⟨x, H1, I1, rx, a, dx, fs, ex, ea, l, q⟩ => ?_) ht
  subst ex
  obtain rfl : u = Value.ref a := rx
  refine getmeth_ok I1 ea c hm l ?_
  exact PySem.W.callWith_K0 (first := [.ref a]) I1.kIn hm.kp (wpAny_call (run_fnR (us := [.ref a]) (vs := [.ref a]) F hr hx I1 (.cons rfl .nil) q))
/-- a def f(a, *r) by its facts -/
theorem fun_star {P : Program} {w : World} {K : PySem.W.Frag} {mg : Str → Option Value} {base : Heap} {f : Addr} {x qual pa pv : Str} {st : Stmt} {fd : FuncData} {N : List Str} {sp : Sp} (F : Fun K x qual st f fd) (S : FnScope N [pa, pv] (defScope st))
    (hb : ∀ (u : Value) (rest : List Value), rest.length ≤ 5 → bindArgs fd ⟨u :: rest, []⟩ = (newTuple rest >>= fun t => pure [(pa, u), (pv, t)]))
    (hbd : ∀ (cdv : Value) (A : Around) (outer : List Env) (s : Shared) (H : Hp) (vs : List V) (Q : VK), Room k (A.deeper (envOfC qual (defScope st) s.heap.objs.size f cdv)) → sp vs H Q E0 →
      ∃ t, PSs (cxOf CX0 P w K mg base N qual (defScope st) f cdv A outer s H E0).nox (defBody st) t ∧ t { nx := fun _ H' => Q .non H', rt := Q } (start N vs) H) :
    FnR P w K mg base CX0 (k + 1) f (fun vs H Q _ => ∃ v rest, vs = v :: rest ∧ rest.length ≤ 5 ∧ ∀ p, H p = none → sp [v, .ref p] (upd H p (.tup rest)) Q E0) := by
  obtain ⟨oc, od, kV, doc, pm, an, cdv, ct, osl, rfl, lk, hc⟩ := F.ex
  intro A outer s H us vs Q E hr e0 r h
  refine fn_ofV (CX := CX0) (sp := fun vs H Q E => E = E0 ∧ sp vs H Q E0) lk hc S (nmax := 5) (by decide) hb (fun _ _ _ _ _ _ _ _ _ _ _ _ z => z) (fun A outer s H vs Q E hr h => ?_) A outer s H us vs Q E0 hr e0 r ?_
  · obtain ⟨rfl, h⟩ := h
    obtain ⟨t, h, q⟩ := hbd cdv A outer s H vs Q hr h
    exact ⟨t, h.nox, q⟩
  · obtain ⟨v, rest, e, hl, q⟩ := h
    exact ⟨v, rest, e, hl, fun p hp => ⟨rfl, q p hp⟩⟩
end
end MH
/-! More own special methods: len, bool, repr, [], in, == and != with values of other kinds, f-strings, classmethods. -/
namespace MH
open PySem PySem.Spec PyProof.Rows L2

section
variable {prog : Program} {w : World} {A : Around} {E : Value → Shared → Prop} {s : Shared} {K : PySem.W.Frag} {x C f L : Addr} {h₀ : Heap} {m : Str → Option Value} {ox : Obj} {od : Option Obj}
open PySem.W in
/-- truth by an own __len__ -/
theorem truthy_len {Q : Bool → Shared → Prop} (F₀ : Fr h₀ L s.heap m) (X₀ : K.In h₀) (I : InstAt s.heap x ox C od) (hs : findIn K (.ref C) "__bool__" = some none) (hl : findIn K (.ref C) "__len__" = some (some (.ref f))) (hf : isFn K (.ref f) = true)
    (h : wpAny (model prog w) A.in1 (call (.ref f) [.ref x]) (fun v s' => ∃ n t, v = .int n t ∧ 0 ≤ n ∧ n < 2 ^ 63 ∧ Q (n != 0) { s' with toks := s'.toks + 1 }) E s) : wpAny (model prog w) A (truthy (.ref x)) Q E s := by
  have X := X₀.keeps F₀.keep
  unfold truthy
  refine wpAny_bind (m := callSpecial? (.ref x) (Str.ofString "__bool__")) (wpAny_bind (wpAny_bind (I.type.here ((looks_findIn X hs).here (wpAny_pure ?_)))))
  refine wpAny_bind (wpAny_bind (I.type.here ((looks_findIn X hl).here ?_)))
  show wpAny _ _ (if (some (Value.ref f)).isNone = true then _ else _) _ _ _
  rw [if_neg (by simp)]
  have key : wpAny (model prog w) A (runValue (.builtin "len" ⟨[.ref x], []⟩)) (fun r s' => ∃ n t, r = .int n t ∧ Q (n != 0) s') E s := by
    refine wpAny_runValue (codeAny_builtin entry_len ?_)
    rw [show A.under (.builtin "len" ⟨[.ref x], []⟩) = A.in1 from Around.under_plainId (by decide +kernel) _]
    unfold Builtin.«len»
    refine wpAny_bind (m := oneArg "len" _) (wpAny_pure ?_)
    refine wpAny_bind (m := callSpecial? (.ref x) (Str.ofString "__len__")) (special_fn X I hl (beq_iff_eq.mp hf) (wpAny_mono h (fun r s' hr => ?_) fun _ _ y => y))
    obtain ⟨n, t, rfl, h0, h1, hq⟩ := hr
    refine wpAny_bind (wpAny_holding (wpAny_pure ?_))
    refine wpAny_bind (wpAny_letGo ?_)
    show wpAny _ _ (if n < 0 then _ else _) _ _ _
    rw [if_neg (by omega)]
    show wpAny _ _ (if n ≥ 2 ^ 63 then _ else _) _ _ _
    rw [if_neg (by omega)]
    exact wpAny_bind (wpAny_mkInt (wpAny_pure ⟨n, _, rfl, hq⟩))
  refine wpAny_bind (wpAny_mono key (fun r s' hr => ?_) fun _ _ y => y)
  obtain ⟨n, t, rfl, hq⟩ := hr
  exact wpAny_pure hq
theorem bool_newM {v : Value} : MeetsIn prog w (Builtin.«bool.__new__» ⟨[.type "bool", v], []⟩) (fun A R s => wpAny (model prog w) A.in1 (truthy v) (fun b s' => R (.ok (.ret (.bool b))) s') (fun e s' => R (.error e) s') s) :=
  .of_wp fun A R s h => by
    obtain ⟨hp, g, d, tk, os⟩ := s
    have f1 := F.conv_sub_bool
    repeat (any_goals (first | assumption | (refine wpAny_bind (m := truthy _) (wpAny_mono h (fun b s' z => ?_) fun _ _ z => z)) | wp_step))
    all_goals first | exact ⟨_, rfl, z⟩ | exact z | skip
theorem call_bool_of {v : Value} {Q : Value → Shared → Prop} (h : wpAny (model prog w) A.in1.in1 (truthy v) (fun b s' => Q (.bool b) s') E s) : wpAny (model prog w) A (call (.type "bool") [v]) Q E s :=
  callType_newIn F.called_bool F.newNe_bool (F.typeCall_bool_1 v) (F.newCall_bool_1 v) (fun obj => F.args_object_init_2 obj v) F.entry_bool_new bool_newM (wpAny_mono h (fun b s' z => ⟨rfl, z⟩) fun _ _ z => z)
open PySem.W in
theorem sub_ty {T : String} {l : List Value} (e : fastBuiltinMro T = some l) (h : l.all (fun v => match v with | .type _ => true | _ => false) = true) : subIn K (.type T) (.ref C) = some false := by
  show (fastBuiltinMro T).map (·.contains (.ref C)) = some false
  rw [e]
  show some (l.contains (Value.ref C)) = some false
  refine congrArg some ?_
  cases q : l.contains (Value.ref C) with
  | false => rfl
  | true =>
    have m := List.contains_iff_mem.mp q
    have z := List.all_eq_true.mp h _ m
    cases z
open PySem.W in
theorem notFirst_ty {T : String} (e : subIn K (.type T) (.ref C) = some false) : notFirst K C (.type T) = true := by
  unfold notFirst
  rw [e]
  simp
open PySem.W in
theorem kit_own {T : String} (c : Cls K C) (ht : typeIn K (.ref C) = some (.type "type")) (e : subIn K (.type T) (.ref C) = some false) : kitOne K (.type T) (.ref C) = some false := by
  obtain ⟨cd, hc, _⟩ := any_some c.hd
  unfold kitOne
  rw [if_neg (by simp)]
  unfold kitCls
  simp only [hc, ht]
  simpa using e
end

section
variable {X : Cx} {CX : CXT} {k : Nat} {C f : Addr} {fd : FuncData} {ps : List Str} {sp : Sp} {E : XK}
/-- len(o) -/
def rLenO (C : Addr) (sp : Sp) (E : XK) : List V → Hp → VK → Prop := fun xs H Q => ∃ a dx fs, xs = [.ref a] ∧ H a = some (.ins C dx fs) ∧ sp [.ref a] H (fun v H' => (∃ n : Int, v = .int n ∧ 0 ≤ n ∧ n < 2 ^ 63) ∧ Q v H') E
theorem call_lenO (hm : Meth X.K C "__len__" f) (F : FnOk X.prog X.w X.K X.mg X.base CX k f fd ps sp) (hr : Room (k + 1) X.A) (hb : Binds X.K fd ps []) (hx : Passes CX X E) : CallR X (.builtin "len") (rLenO C sp E) := by
  intro pins s σ H xs us Q I r h
  obtain ⟨a, dx, fs, rfl, ha, q⟩ := h
  obtain ⟨u, rfl, ru⟩ := vals1 r
  obtain rfl : u = Value.ref a := ru
  obtain ⟨mA, J, _⟩ := ins_get I.hok ha
  obtain ⟨od, J, _⟩ := J.look
  obtain ⟨m, hF⟩ := I.fr
  refine PySem.W.len_K hF I.ok.mod.kin J hm.at_ hm.fn ?_
  refine wpAny_mono (run_A F hr.in1 I.env0.in1 hb hx I (show Vals [V.ref a] [Value.ref a] from .cons rfl .nil) q) (fun r s' z => ?_) fun _ _ e => e
  obtain ⟨v, H', I', rv, ⟨n, rfl, h0, h1⟩, q'⟩ := z
  obtain ⟨t, rfl⟩ := rv
  exact ⟨⟨h0, h1⟩, .int n, H', I'.tok _, ⟨_, rfl⟩, q'⟩
/-- bool(o), by len -/
def rBoolO (C : Addr) (sp : Sp) (E : XK) : List V → Hp → VK → Prop := fun xs H Q => ∃ a dx fs, xs = [.ref a] ∧ H a = some (.ins C dx fs) ∧ sp [.ref a] H (fun v H' => ∃ n : Int, v = .int n ∧ 0 ≤ n ∧ n < 2 ^ 63 ∧ Q (.bl (n != 0)) H') E
theorem call_boolO (hm : Meth X.K C "__len__" f) (hs : PySem.W.findIn X.K (.ref C) "__bool__" = some none) (F : FnOk X.prog X.w X.K X.mg X.base CX k f fd ps sp) (hr : Room (k + 3) X.A) (hb : Binds X.K fd ps []) (hx : Passes CX X E) : CallR X (.type "bool") (rBoolO C sp E) := by
  intro pins s σ H xs us Q I r h
  obtain ⟨a, dx, fs, rfl, ha, q⟩ := h
  obtain ⟨u, rfl, ru⟩ := vals1 r
  obtain rfl : u = Value.ref a := ru
  obtain ⟨mA, J, _⟩ := ins_get I.hok ha
  obtain ⟨od, J, _⟩ := J.look
  obtain ⟨m, hF⟩ := I.fr
  refine call_bool_of (truthy_len hF I.ok.mod.kin J hs hm.at_ hm.fn ?_)
  refine wpAny_mono (run_A F hr.in1.in1.in1 I.env0.in1.in1.in1 hb hx I (show Vals [V.ref a] [Value.ref a] from .cons rfl .nil) q) (fun r s' z => ?_) fun _ _ e => e
  obtain ⟨v, H', I', rv, n, rfl, h0, h1, q'⟩ := z
  obtain ⟨t, rfl⟩ := rv
  exact ⟨n, t, rfl, h0, h1, .bl (n != 0), H', I'.tok _, rfl, q'⟩
/-- repr(o) -/
theorem call_reprO (hm : Meth X.K C "__repr__" f) (F : FnOk X.prog X.w X.K X.mg X.base CX k f fd ps sp) (hr : Room (k + 1) X.A) (hb : Binds X.K fd ps []) (hx : Passes CX X E) : CallR X (.builtin "repr") (rStrO C sp E) := by
  intro pins s σ H xs us Q I r h
  obtain ⟨a, dx, fs, rfl, ha, q⟩ := h
  obtain ⟨u, rfl, ru⟩ := vals1 r
  obtain rfl : u = Value.ref a := ru
  obtain ⟨mA, J, _⟩ := ins_get I.hok ha
  obtain ⟨od, J, _⟩ := J.look
  obtain ⟨m, hF⟩ := I.fr
  refine PySem.W.repr_K hr.in1.units0 hF I.ok.mod.kin J hm.at_ hm.fn ?_
  refine wpAny_mono (run_A F hr.in1 I.env0.in1 hb hx I (show Vals [V.ref a] [Value.ref a] from .cons rfl .nil) q) (fun r s' z => ?_) fun _ _ e => e
  obtain ⟨v, H', I', rv, ⟨z, rfl⟩, q'⟩ := z
  obtain ⟨t, rfl⟩ := rv
  exact ⟨.str z, H', I', ⟨t, rfl⟩, q'⟩
/-- o[e] -/
def tItO (C : Addr) (sp : Sp) (E : XK) (ta tb : TE) : TE := fun σ H Q => ta σ H fun x H1 => tb σ H1 fun y H2 => ∃ a dx fs, x = .ref a ∧ H2 a = some (.ins C dx fs) ∧ sp [.ref a, y] H2 Q E
theorem pe_itO {a b : Expr} {ta tb : TE} {pos : Pos} (hm : Meth X.K C "__getitem__" f) (hfi : PySem.W.fnIn X.K f = true) (F : FnOk X.prog X.w X.K X.mg X.base CX k f fd ps sp) (hr : Room (k + 1) X.A) (hb : Binds X.K fd ps []) (hx : Passes CX X E)
    (he : PE X a ta) (hi : PE X b tb) (hsl : ∀ o i, subscripted b true o i = runValue (.builtin "lifetime.subscript" ⟨[o, i], []⟩)) : PE X (.Subscript a b pos) (tItO C sp E ta tb) := by
  refine ⟨fun pins s σ H Q I h => ?_⟩
  refine Subscript_ (binT he hi I h fun v u s2 x y H2 I2 rx ry q => ?_)
  obtain ⟨o, dx, fs, rfl, ha, q⟩ := q
  obtain rfl : v = Value.ref o := rx
  obtain ⟨mA, J, _⟩ := ins_get I2.hok ha
  obtain ⟨od, J, _⟩ := J.look
  obtain ⟨m, hF⟩ := I2.fr
  exact PySem.W.sub_K hF I2.ok.mod.kin J hm.at_ hfi hm.fn (run_A F hr.in1 I2.env0.in1 hb hx I2 (show Vals [V.ref o, y] [Value.ref o, u] from .cons rfl (.cons ry .nil)) q) (hsl _ _)
/-- v in o -/
def rInO (C : Addr) (sp : Sp) (E : XK) : R2 := fun x y H Q => ∃ a dx fs, y = .ref a ∧ H a = some (.ins C dx fs) ∧ sp [.ref a, x] H (fun v H' => (∃ k, v = .bl k) ∧ Q v H') E
theorem op_inO (hm : Meth X.K C "__contains__" f) (F : FnOk X.prog X.w X.K X.mg X.base CX k f fd ps sp) (hr : Room k X.A) (hb : Binds X.K fd ps []) (hx : Passes CX X E) : OpR X (compareOp .In) (rInO C sp E) := by
  intro pins s σ H x y v u Q I rx ry h
  obtain ⟨a, dx, fs, rfl, ha, q⟩ := h
  obtain rfl : u = Value.ref a := ry
  obtain ⟨mA, J, _⟩ := ins_get I.hok ha
  obtain ⟨od, J, _⟩ := J.look
  obtain ⟨m, hF⟩ := I.fr
  refine PySem.W.in_K hF I.ok.mod.kin J hm.at_ hm.fn ?_
  refine wpAny_mono (run_A F hr I.env0 hb hx I (show Vals [V.ref a, x] [Value.ref a, v] from .cons rfl (.cons rx .nil)) q) (fun r s' z => ?_) fun _ _ e => e
  obtain ⟨w, H', I', rw', ⟨k, rfl⟩, q'⟩ := z
  obtain rfl : r = Value.bool k := rw'
  exact wpAny_truthy_bool ⟨.bl k, H', I', rfl, q'⟩
/-- o == v, v of a known type -/
def rOX (C : Addr) (K : PySem.W.Frag) (sp : Sp) (E : XK) : R2 := fun x y H Q => ∃ a dx fs t, x = .ref a ∧ H a = some (.ins C dx fs) ∧ TyX K H y t ∧ PySem.W.notFirst K C t = true ∧ sp [.ref a, y] H (fun v H' => (∃ k, v = .bl k) ∧ Q v H') E
theorem op_eqX (hm : Meth X.K C "__eq__" f) (F : FnOk X.prog X.w X.K X.mg X.base CX k f fd ps sp) (hr : Room k X.A) (hb : Binds X.K fd ps []) (hx : Passes CX X E) : OpR X (compareOp .Eq) (rOX C X.K sp E) := by
  intro pins s σ H x y v u Q I rx ry h
  obtain ⟨a, dx, fs, t, rfl, ha, ty, hn, q⟩ := h
  obtain rfl : v = Value.ref a := rx
  obtain ⟨mA, J, _⟩ := ins_get I.hok ha
  obtain ⟨od, J, _⟩ := J.look
  obtain ⟨m, hF⟩ := I.fr
  obtain ⟨P, Z, p, _⟩ := kit_of I ry ty
  refine PySem.W.cmp_K (op := .Eq) (tb := t) hr.units0 hF I.ok.mod.kin J (Z.ty _ _ I.kIn p) hn hm.at_ hm.fn ?_
  refine wpAny_mono (run_A F hr I.env0 hb hx I (show Vals [V.ref a, y] [Value.ref a, u] from .cons rfl (.cons ry .nil)) q) (fun r s' z => ?_) fun _ _ e => e
  obtain ⟨w, H', I', rv, ⟨k, rfl⟩, q'⟩ := z
  obtain rfl : r = Value.bool k := rv
  exact ⟨.bl k, H', I', rfl, q'⟩
/-- o != v -/
def rNX (C : Addr) (K : PySem.W.Frag) (sp : Sp) (E : XK) : R2 := fun x y H Q => ∃ a dx fs t, x = .ref a ∧ H a = some (.ins C dx fs) ∧ TyX K H y t ∧ PySem.W.notFirst K C t = true ∧ sp [.ref a, y] H (fun v H' => ∃ k, v = .bl k ∧ Q (.bl (!k)) H') E
theorem op_neX (hm : Meth X.K C "__eq__" f) (hne : PySem.W.findIn X.K (.ref C) "__ne__" = some (some (.builtin "object.__ne__"))) (ho : PySem.W.mroIn X.K C (.type "object") = some true)
    (F : FnOk X.prog X.w X.K X.mg X.base CX k f fd ps sp) (hr : Room (k + 1) X.A) (hb : Binds X.K fd ps []) (hx : Passes CX X E) : OpR X (compareOp .NotEq) (rNX C X.K sp E) := by
  intro pins s σ H x y v u Q I rx ry h
  obtain ⟨a, dx, fs, t, rfl, ha, ty, hn, q⟩ := h
  obtain rfl : v = Value.ref a := rx
  obtain ⟨mA, J, _⟩ := ins_get I.hok ha
  obtain ⟨od, J, _⟩ := J.look
  obtain ⟨m, hF⟩ := I.fr
  obtain ⟨P, Z, p, _⟩ := kit_of I ry ty
  refine ne_K (tb := t) hr.units0 hr.in1.units0 hF I.ok.mod.kin J (Z.ty _ _ I.kIn p) hn hne ho hm.at_ hm.fn ?_
  refine wpAny_mono (run_A F hr.in1 I.env0.in1 hb hx I (show Vals [V.ref a, y] [Value.ref a, u] from .cons rfl (.cons ry .nil)) q) (fun r s' z => ?_) fun _ _ e => e
  obtain ⟨w, H', I', rv, k, rfl, q'⟩ := z
  obtain rfl : r = Value.bool k := rv
  exact ⟨k, rfl, .bl (!k), H', I', rfl, q'⟩
/-- {o} in an f-string -/
def tFmtO (C : Addr) (sp : Sp) (E : XK) (te : TE) : TE := fun σ H Q => te σ H fun x H1 => ∃ a dx fs, x = .ref a ∧ H1 a = some (.ins C dx fs) ∧ sp [.ref a] H1 (fun v H' => (∃ z, v = .str z) ∧ Q v H') E
theorem pe_fmtO {e : Expr} {te : TE} {pos : Pos} (hm : Meth X.K C "__str__" f) (hfm : PySem.W.findIn X.K (.ref C) "__format__" = some (some (.builtin "object.__format__"))) (ho : PySem.W.mroIn X.K C (.type "object") = some true)
    (F : FnOk X.prog X.w X.K X.mg X.base CX k f fd ps sp) (hr : Room (k + 1) X.A) (hb : Binds X.K fd ps []) (hx : Passes CX X E) (he : PE X e te) : PE X (.FormattedValue e (-1) none pos) (tFmtO C sp E te) := by
  refine ⟨fun pins s σ H Q I h => ?_⟩
  refine wpAny_FormattedValue_plain (thn (he.run pins s σ H _ I h) fun v s1 ⟨x, H1, I1, r1, a, dx, fs, ex, ha, q⟩ => ?_)
  subst ex
  obtain rfl : v = Value.ref a := r1
  obtain ⟨mA, J, _⟩ := ins_get I1.hok ha
  obtain ⟨od, J, _⟩ := J.look
  have I2 := I1.tok (s1.toks + 1)
  refine PySem.W.kfo_fieldS hr.in1.units0 I1.kIn J hfm ho hm.at_ hm.fn ?_
  refine wpAny_mono (run_A F hr.in1 I2.env0.in1 hb (fun pins σ H s e s' I z => hx pins σ H s e s' I z) I2 (show Vals [V.ref a] [Value.ref a] from .cons rfl .nil) q) (fun r s' z => ?_) fun _ _ e => e
  obtain ⟨v, H', I', rv, ⟨z, rfl⟩, q'⟩ := z
  obtain ⟨t, rfl⟩ := rv
  exact ⟨.str z, H', I', ⟨t, rfl⟩, q'⟩
/-- c(..), c a local name that holds the class -/
def tMakeV (C : Addr) (sp : Sp) (E : XK) (tf : TE) (t : TA) : TE := fun σ H Q => tf σ H fun x H0 => x = .ref C ∧ tMake C sp [] E t σ H0 Q
theorem pe_makeV {x : Str} {p pos : Pos} {e : Expr} {es : List Expr} {tf : TE} {t : TA} (M : Mk X.K C f) (F : FnOk X.prog X.w X.K X.mg X.base CX k f fd ps sp) (hr : Room (k + 1) X.A) (hv : PE X (.Name x p) tf) (hb : Binds X.K fd ps []) (hx : Passes CX X E)
    (ha : PA X (e :: es) t) (he : starEach (e :: es) X.env = (false, eval e X.env) :: starEach es X.env := by rfl) (hpl : (backTo pos (starEach es X.env)).any (·.1) = false := by rfl) : PE X (.Call (.Name x p) (e :: es) [] pos) (tMakeV C sp E tf t) := by
  refine ⟨fun pins s σ H Q I h => ?_⟩
  refine wpAny_Call_Name_kw (thn (hv.run pins s σ H _ I h) fun f s0 ⟨v, H0, I0, r0, ev, q0⟩ => ?_)
  subst ev
  obtain rfl : f = Value.ref C := r0
  refine PySem.W.callWith_K (h₀ := X.base) I.ok.mod.kin M.kp (thn (ha.run pos pins s0 σ H0 _ I0 q0) fun us s1 ⟨vs, H1, I1, r, q⟩ => ⟨I1.kIn, ?_⟩) he hpl
  exact run_make M F hr hb .nil hx I1 r q
theorem FnOk.toR {P : Program} {w : World} {K : PySem.W.Frag} {mg : Str → Option Value} {base : Heap} (F : FnOk P w K mg base CX k f fd ps sp) (hB : Binds K fd ps []) : FnR P w K mg base CX k f sp := fun A outer s H us vs Q E hr e0 r hs => by
  have KX : K.In s.heap := e0.mod.kin.keeps fun b o e => (e0.bs b o e).1
  have hl : (us ++ []).length = ps.length := by rw [List.append_nil, ← r.length, F.len _ _ _ _ hs]
  have hb2 := hB s us KX hl
  rw [List.append_nil] at hb2
  exact F.run A outer s H ⟨us, []⟩ us vs Q E hr e0 hb2 r hs
/-- c.m(k = v), m a classmethod -/
def tCMethK (C : Addr) (n : Nat) (sp : Sp) (gV : List V → List V → List V) (E : XK) (ta : TE) (tk : TA) : TE := fun σ H Q => ta σ H fun x H1 => x = .ref C ∧ tk σ H1 fun zs H2 => zs.length = n ∧ sp (gV [.ref C] zs) H2 Q E
theorem pe_cmethK {p : Addr} {mc : Value} {ks : List Str} {o : Expr} {m : Str} {apos pos : Pos} {kws : List Keyword} {ta : TE} {tk : TA} {g : List Value → List Value → List Value} {gV : List V → List V → List V} {pl : Sem Bool} (he : PE X o ta) (r : ClX.CRead X.K C mc) (c : ClX.CMet X.K C mc m p f)
    (F : FnOk X.prog X.w X.K X.mg X.base CX k f fd ps sp) (hr : Room k X.A) (hb : KBn X.K fd ps 1 ks g gV) (hx : Passes CX X E) (hkw : PK X kws tk)
    (hall : (backToKw pos (keywordEach kws X.env)).all (·.1.isSome) = true := by rfl) (hks : (backToKw pos (keywordEach kws X.env)).filterMap (·.1) = ks := by rfl)
    (hpl : ((backTo pos (starEach [] X.env)).any (·.1) || (backToKw pos (keywordEach kws X.env)).any (·.1.isNone)) = false := by rfl)
    (ht : eval (.Call (.Attribute o m apos) [] kws pos) X.env = (do
      let ov ← eval o X.env
      standAt apos.atName
      let (f, first) ← holding [ov] (getMethod ov m pl)
      callWith pos f first (backTo pos (starEach [] X.env)) (backToKw pos (keywordEach kws X.env))) := by rfl) :
    PE X (.Call (.Attribute o m apos) [] kws pos) (tCMethK C ks.length sp gV E ta tk) := by
  refine ⟨fun pins s σ H Q I h => ?_⟩
  refine PySem.W.methodCall_KW (pl := pl) (thn (he.run pins s σ H _ I h) fun u s1 ⟨x, H1, I1, rx, ex, q⟩ => ?_) ht
  subst ex
  obtain rfl : u = Value.ref C := rx
  refine ClX.getmethcm_ok I1 r c fun s2 I2 => ?_
  refine PySem.W.callWith_of (P := PySem.W.MethP X.K s1.heap.objs.size f (.ref C)) hpl (PySem.W.keeps_M c.fi) (PyProof.Rows.evalArgs_kw2_nil hall ?_)
  refine thn (hkw.run pos _ s2 σ H1 _ I2 q) fun ws s3 ⟨zs, H2, I3, rz, hz, q2⟩ => ⟨⟨ClX.pin_at I3, I3.kIn⟩, ?_⟩
  rw [hks]
  have r1 : Vals [V.ref C] [Value.ref C] := .cons rfl .nil
  have r2 := hb.rel r1 rz
  have z : wpAny (model X.prog X.w) X.A (call (.ref s1.heap.objs.size) ([] ++ []) (ks.zip ws)) (EP X ((s1.heap.objs.size, PySem.W.methodObj (.ref f) (.ref C)) :: pins) σ Q) X.xe s3 := by
    refine wpAny_call (PySem.W.method_call (ClX.pin_at I3) (codeAny_mono (F.run X.A X.stack s3 H2 ⟨[.ref C], ks.zip ws⟩ (g [.ref C] ws) (gV [.ref C] zs) Q E hr I3.env0 (hb.to s3 [.ref C] ws I3.kIn rfl (rz.length.symm.trans hz)) r2 q2) fun r s' hq => ?_))
    match r, hq with
    | .ok (.ret u), hq => exact I3.after hq
    | .ok .next, hq => exact False.elim hq
    | .ok .brk, hq => exact False.elim hq
    | .ok .cont, hq => exact False.elim hq
    | .error e, hq => exact hx _ σ H2 s3 e s' I3 hq
  exact thn z fun _ _ y => ClX.unpinE y
/-- repr of a truth -/
def rReprB : List V → Hp → VK → Prop := fun xs H Q => ∃ b, xs = [.bl b] ∧ Q (.str (if b then "True" else "False")) H
theorem call_reprB : CallR X (.builtin "repr") rReprB := by
  intro pins s σ H xs us Q I r h
  obtain ⟨b, rfl, q⟩ := h
  obtain ⟨u, rfl, r1⟩ := vals1 r
  obtain rfl : u = Value.bool b := r1
  exact PySem.P.repr_of_bool ⟨.str _, H, I.tok _, ⟨_, rfl⟩, q⟩
end
end MH
namespace MH
open PySem PySem.Spec PyProof.Rows L2
def topS (i : Nat) : Stmt := PySem.Challenge.pw_menuhouses_k02_rankings_made.main.body.getD i (.Pass ⟨0, 0, 0, 0⟩)
abbrev st_is_index : Stmt := topS 12
abbrev names_is_index : List Str := ["value", "many"]
theorem sc_is_index : FnScope names_is_index ["value", "many"] (defScope st_is_index) := ⟨rfl, rfl, rfl, by decide +kernel, rfl, by decide +kernel, by decide +kernel⟩
abbrev st_is_name : Stmt := topS 13
abbrev names_is_name : List Str := ["value", "sign"]
theorem sc_is_name : FnScope names_is_name ["value"] (defScope st_is_name) := ⟨rfl, rfl, rfl, by decide +kernel, rfl, by decide +kernel, by decide +kernel⟩
abbrev st_is_filled_tuple : Stmt := topS 14
abbrev names_is_filled_tuple : List Str := ["value"]
theorem sc_is_filled_tuple : FnScope names_is_filled_tuple ["value"] (defScope st_is_filled_tuple) := ⟨rfl, rfl, rfl, by decide +kernel, rfl, by decide +kernel, by decide +kernel⟩
abbrev st_is_one_of : Stmt := topS 15
abbrev names_is_one_of : List Str := ["value", "things"]
theorem sc_is_one_of : FnScope names_is_one_of ["value", "things"] (defScope st_is_one_of) := ⟨rfl, rfl, rfl, by decide +kernel, rfl, by decide +kernel, by decide +kernel⟩
abbrev st_first_wrong_in_row : Stmt := topS 16
abbrev names_first_wrong_in_row : List Str := ["row", "at", "name"]
theorem sc_first_wrong_in_row : FnScope names_first_wrong_in_row ["row"] (defScope st_first_wrong_in_row) := ⟨rfl, rfl, rfl, by decide +kernel, rfl, by decide +kernel, by decide +kernel⟩
abbrev st_check_row : Stmt := topS 18
abbrev names_check_row : List Str := ["row", "wrong"]
theorem sc_check_row : FnScope names_check_row ["row"] (defScope st_check_row) := ⟨rfl, rfl, rfl, by decide +kernel, rfl, by decide +kernel, by decide +kernel⟩
abbrev st_RankingD_initD : Stmt := inClass (topS 21) 0
abbrev names_RankingD_initD : List Str := ["self", "row"]
theorem sc_RankingD_initD : FnScope names_RankingD_initD ["self", "row"] (defScope st_RankingD_initD) := ⟨rfl, rfl, rfl, by decide +kernel, rfl, by decide +kernel, by decide +kernel⟩
abbrev st_Ranking_of : Stmt := inClass (topS 21) 1
abbrev names_Ranking_of : List Str := ["cls", "names"]
theorem sc_Ranking_of : FnScope names_Ranking_of ["cls", "names"] (defScope st_Ranking_of) := ⟨rfl, rfl, rfl, by decide +kernel, rfl, by decide +kernel, by decide +kernel⟩
abbrev st_Ranking_read : Stmt := inClass (topS 21) 2
abbrev names_Ranking_read : List Str := ["cls", "text", "row"]
theorem sc_Ranking_read : FnScope names_Ranking_read ["cls", "text"] (defScope st_Ranking_read) := ⟨rfl, rfl, rfl, by decide +kernel, rfl, by decide +kernel, by decide +kernel⟩
abbrev st_Ranking_row : Stmt := inClass (topS 21) 3
abbrev names_Ranking_row : List Str := ["self"]
theorem sc_Ranking_row : FnScope names_Ranking_row ["self"] (defScope st_Ranking_row) := ⟨rfl, rfl, rfl, by decide +kernel, rfl, by decide +kernel, by decide +kernel⟩
abbrev st_Ranking_things : Stmt := inClass (topS 21) 4
abbrev names_Ranking_things : List Str := ["self"]
theorem sc_Ranking_things : FnScope names_Ranking_things ["self"] (defScope st_Ranking_things) := ⟨rfl, rfl, rfl, by decide +kernel, rfl, by decide +kernel, by decide +kernel⟩
abbrev st_RankingD_getitemD : Stmt := inClass (topS 21) 9
abbrev names_RankingD_getitemD : List Str := ["self", "at"]
theorem sc_RankingD_getitemD : FnScope names_RankingD_getitemD ["self", "at"] (defScope st_RankingD_getitemD) := ⟨rfl, rfl, rfl, by decide +kernel, rfl, by decide +kernel, by decide +kernel⟩
abbrev st_RankingD_containsD : Stmt := inClass (topS 21) 11
abbrev names_RankingD_containsD : List Str := ["self", "x"]
theorem sc_RankingD_containsD : FnScope names_RankingD_containsD ["self", "x"] (defScope st_RankingD_containsD) := ⟨rfl, rfl, rfl, by decide +kernel, rfl, by decide +kernel, by decide +kernel⟩
abbrev st_RankingD_lenD : Stmt := inClass (topS 21) 13
abbrev names_RankingD_lenD : List Str := ["self"]
theorem sc_RankingD_lenD : FnScope names_RankingD_lenD ["self"] (defScope st_RankingD_lenD) := ⟨rfl, rfl, rfl, by decide +kernel, rfl, by decide +kernel, by decide +kernel⟩
abbrev st_RankingD_strD : Stmt := inClass (topS 21) 14
abbrev names_RankingD_strD : List Str := ["self"]
theorem sc_RankingD_strD : FnScope names_RankingD_strD ["self"] (defScope st_RankingD_strD) := ⟨rfl, rfl, rfl, by decide +kernel, rfl, by decide +kernel, by decide +kernel⟩
abbrev st_RankingD_reprD : Stmt := inClass (topS 21) 15
abbrev names_RankingD_reprD : List Str := ["self"]
theorem sc_RankingD_reprD : FnScope names_RankingD_reprD ["self"] (defScope st_RankingD_reprD) := ⟨rfl, rfl, rfl, by decide +kernel, rfl, by decide +kernel, by decide +kernel⟩
abbrev st_RankingD_eqD : Stmt := inClass (topS 21) 16
abbrev names_RankingD_eqD : List Str := ["self", "other"]
theorem sc_RankingD_eqD : FnScope names_RankingD_eqD ["self", "other"] (defScope st_RankingD_eqD) := ⟨rfl, rfl, rfl, by decide +kernel, rfl, by decide +kernel, by decide +kernel⟩
abbrev st_l_purse : Stmt := topS 23
abbrev names_l_purse : List Str := ["_law_script", "_law_spot", "_law_cell", "_law_seed", "_law_one"]
theorem sc_l_purse : FnScope names_l_purse ["_law_script", "_law_spot"] (defScope st_l_purse) := ⟨rfl, rfl, rfl, by decide +kernel, rfl, by decide +kernel, by decide +kernel⟩
abbrev st_l_draw : Stmt := topS 24
abbrev names_l_draw : List Str := ["_law_purse_here", "_law_many", "_law_digit"]
theorem sc_l_draw : FnScope names_l_draw ["_law_purse_here", "_law_many"] (defScope st_l_draw) := ⟨rfl, rfl, rfl, by decide +kernel, rfl, by decide +kernel, by decide +kernel⟩
abbrev st_l_things : Stmt := topS 25
abbrev names_l_things : List Str := ["_law_purse_here", "_law_many", "_law_pool", "_law_found", "_law_turn"]
theorem sc_l_things : FnScope names_l_things ["_law_purse_here", "_law_many"] (defScope st_l_things) := ⟨rfl, rfl, rfl, by decide +kernel, rfl, by decide +kernel, by decide +kernel⟩
abbrev st_l_order : Stmt := topS 26
abbrev names_l_order : List Str := ["_law_purse_here", "_law_things_here", "_law_left", "_law_found", "_law_turn"]
theorem sc_l_order : FnScope names_l_order ["_law_purse_here", "_law_things_here"] (defScope st_l_order) := ⟨rfl, rfl, rfl, by decide +kernel, rfl, by decide +kernel, by decide +kernel⟩
abbrev st_l_near : Stmt := topS 27
abbrev names_l_near : List Str := ["_law_purse_here", "_law_rank", "_law_found", "_law_turn", "_law_at"]
theorem sc_l_near : FnScope names_l_near ["_law_purse_here", "_law_rank"] (defScope st_l_near) := ⟨rfl, rfl, rfl, by decide +kernel, rfl, by decide +kernel, by decide +kernel⟩
abbrev st_l_made : Stmt := topS 28
abbrev names_l_made : List Str := ["_law_purse_here", "_law_rank", "_law_way", "_law_line"]
theorem sc_l_made : FnScope names_l_made ["_law_purse_here", "_law_rank"] (defScope st_l_made) := ⟨rfl, rfl, rfl, by decide +kernel, rfl, by decide +kernel, by decide +kernel⟩
abbrev st_l_shown : Stmt := topS 29
abbrev names_l_shown : List Str := ["_law_ranking", "_law_rank", "_law_line", "_law_due", "_law_told", "_law_k"]
theorem sc_l_shown : FnScope names_l_shown ["_law_ranking", "_law_rank"] (defScope st_l_shown) := ⟨rfl, rfl, rfl, by decide +kernel, rfl, by decide +kernel, by decide +kernel⟩
abbrev st_l_right : Stmt := topS 30
abbrev names_l_right : List Str := ["_law_purse_here", "_law_things_here", "_law_rows", "_law_rank", "_law_made_here", "_law_turn", "_law_one", "_law_thing", "_law_k", "_law_mate", "_law_other"]
theorem sc_l_right : FnScope names_l_right ["_law_purse_here"] (defScope st_l_right) := ⟨rfl, rfl, rfl, by decide +kernel, rfl, by decide +kernel, by decide +kernel⟩
abbrev st_law : Stmt := topS 31
abbrev names_law : List Str := ["_law_script", "_law_spot"]
theorem sc_law : FnScope names_law ["_law_script"] (defScope st_law) := ⟨rfl, rfl, rfl, by decide +kernel, rfl, by decide +kernel, by decide +kernel⟩
structure Tx (K : PySem.W.Frag) (mg : Str → Option Value) where
  C : Addr
  cl : Cls K C
  g_Ranking : mg "Ranking" = some (.ref C)
  ne : PySem.W.findIn K (.ref C) "__ne__" = some (some (.builtin "object.__ne__"))
  ob : PySem.W.mroIn K C (.type "object") = some true
  ty : ∀ {H : Hp} {a dx : Addr} {fs : List (Str × V)}, H a = some (.ins C dx fs) → TyX K H (.ref a) (.ref C)
  nobool : PySem.W.findIn K (.ref C) "__bool__" = some none
  fm : PySem.W.findIn K (.ref C) "__format__" = some (some (.builtin "object.__format__"))
  crd : ClX.CRead K C (.type "type")
  cty : PySem.W.typeIn K (.ref C) = some (.type "type")
  no__row : NoAttr K C "_row"
  no__things : NoAttr K C "_things"
  a_is_index : Addr
  fd_is_index : FuncData
  F_is_index : Fun K "is_index" "is_index" st_is_index a_is_index fd_is_index
  b_is_index : Binds K fd_is_index ["value", "many"] []
  g_is_index : mg "is_index" = some (.ref a_is_index)
  a_is_name : Addr
  fd_is_name : FuncData
  F_is_name : Fun K "is_name" "is_name" st_is_name a_is_name fd_is_name
  b_is_name : Binds K fd_is_name ["value"] []
  g_is_name : mg "is_name" = some (.ref a_is_name)
  a_is_filled_tuple : Addr
  fd_is_filled_tuple : FuncData
  F_is_filled_tuple : Fun K "is_filled_tuple" "is_filled_tuple" st_is_filled_tuple a_is_filled_tuple fd_is_filled_tuple
  b_is_filled_tuple : Binds K fd_is_filled_tuple ["value"] []
  g_is_filled_tuple : mg "is_filled_tuple" = some (.ref a_is_filled_tuple)
  a_is_one_of : Addr
  fd_is_one_of : FuncData
  F_is_one_of : Fun K "is_one_of" "is_one_of" st_is_one_of a_is_one_of fd_is_one_of
  b_is_one_of : Binds K fd_is_one_of ["value", "things"] []
  g_is_one_of : mg "is_one_of" = some (.ref a_is_one_of)
  a_first_wrong_in_row : Addr
  fd_first_wrong_in_row : FuncData
  F_first_wrong_in_row : Fun K "first_wrong_in_row" "first_wrong_in_row" st_first_wrong_in_row a_first_wrong_in_row fd_first_wrong_in_row
  b_first_wrong_in_row : Binds K fd_first_wrong_in_row ["row"] []
  g_first_wrong_in_row : mg "first_wrong_in_row" = some (.ref a_first_wrong_in_row)
  a_check_row : Addr
  fd_check_row : FuncData
  F_check_row : Fun K "check_row" "check_row" st_check_row a_check_row fd_check_row
  b_check_row : Binds K fd_check_row ["row"] []
  g_check_row : mg "check_row" = some (.ref a_check_row)
  a_RankingD_initD : Addr
  fd_RankingD_initD : FuncData
  F_RankingD_initD : Fun K "__init__" "Ranking.__init__" st_RankingD_initD a_RankingD_initD fd_RankingD_initD
  b_RankingD_initD : Binds K fd_RankingD_initD ["self", "row"] []
  mkc : Mk K C a_RankingD_initD
  kb_RankingD_initD : KBn K fd_RankingD_initD ["self", "row"] 1 ["row"] (fun us ws => us ++ ws) (fun vs zs => vs ++ zs)
  q_Ranking_of : Addr
  a_Ranking_of : Addr
  fd_Ranking_of : FuncData
  F_Ranking_of : Fun K "of" "Ranking.of" st_Ranking_of a_Ranking_of fd_Ranking_of
  bv_Ranking_of : ∀ (u : Value) (rest : List Value), rest.length ≤ 5 → bindArgs fd_Ranking_of ⟨u :: rest, []⟩ = (newTuple rest >>= fun t => pure [(("cls" : Str), u), (("names" : Str), t)])
  cm_Ranking_of : ClX.CMet K C (.type "type") "of" q_Ranking_of a_Ranking_of
  q_Ranking_read : Addr
  a_Ranking_read : Addr
  fd_Ranking_read : FuncData
  F_Ranking_read : Fun K "read" "Ranking.read" st_Ranking_read a_Ranking_read fd_Ranking_read
  b_Ranking_read : Binds K fd_Ranking_read ["cls", "text"] []
  cm_Ranking_read : ClX.CMet K C (.type "type") "read" q_Ranking_read a_Ranking_read
  kb_Ranking_read : KBn K fd_Ranking_read ["cls", "text"] 1 ["text"] (fun us ws => us ++ ws) (fun vs zs => vs ++ zs)
  q_Ranking_row : Addr
  a_Ranking_row : Addr
  fd_Ranking_row : FuncData
  F_Ranking_row : Fun K "row" "Ranking.row" st_Ranking_row a_Ranking_row fd_Ranking_row
  b_Ranking_row : Binds K fd_Ranking_row ["self"] []
  p_row : PropOf K C "row" q_Ranking_row a_Ranking_row
  q_Ranking_things : Addr
  a_Ranking_things : Addr
  fd_Ranking_things : FuncData
  F_Ranking_things : Fun K "things" "Ranking.things" st_Ranking_things a_Ranking_things fd_Ranking_things
  b_Ranking_things : Binds K fd_Ranking_things ["self"] []
  p_things : PropOf K C "things" q_Ranking_things a_Ranking_things
  a_RankingD_getitemD : Addr
  fd_RankingD_getitemD : FuncData
  F_RankingD_getitemD : Fun K "__getitem__" "Ranking.__getitem__" st_RankingD_getitemD a_RankingD_getitemD fd_RankingD_getitemD
  b_RankingD_getitemD : Binds K fd_RankingD_getitemD ["self", "at"] []
  fi_RankingD_getitemD : PySem.W.fnIn K a_RankingD_getitemD = true
  m_RankingD_getitemD : Meth K C "__getitem__" a_RankingD_getitemD
  a_RankingD_containsD : Addr
  fd_RankingD_containsD : FuncData
  F_RankingD_containsD : Fun K "__contains__" "Ranking.__contains__" st_RankingD_containsD a_RankingD_containsD fd_RankingD_containsD
  b_RankingD_containsD : Binds K fd_RankingD_containsD ["self", "x"] []
  m_RankingD_containsD : Meth K C "__contains__" a_RankingD_containsD
  a_RankingD_lenD : Addr
  fd_RankingD_lenD : FuncData
  F_RankingD_lenD : Fun K "__len__" "Ranking.__len__" st_RankingD_lenD a_RankingD_lenD fd_RankingD_lenD
  b_RankingD_lenD : Binds K fd_RankingD_lenD ["self"] []
  m_RankingD_lenD : Meth K C "__len__" a_RankingD_lenD
  a_RankingD_strD : Addr
  fd_RankingD_strD : FuncData
  F_RankingD_strD : Fun K "__str__" "Ranking.__str__" st_RankingD_strD a_RankingD_strD fd_RankingD_strD
  b_RankingD_strD : Binds K fd_RankingD_strD ["self"] []
  m_RankingD_strD : Meth K C "__str__" a_RankingD_strD
  a_RankingD_reprD : Addr
  fd_RankingD_reprD : FuncData
  F_RankingD_reprD : Fun K "__repr__" "Ranking.__repr__" st_RankingD_reprD a_RankingD_reprD fd_RankingD_reprD
  b_RankingD_reprD : Binds K fd_RankingD_reprD ["self"] []
  m_RankingD_reprD : Meth K C "__repr__" a_RankingD_reprD
  a_RankingD_eqD : Addr
  fd_RankingD_eqD : FuncData
  F_RankingD_eqD : Fun K "__eq__" "Ranking.__eq__" st_RankingD_eqD a_RankingD_eqD fd_RankingD_eqD
  b_RankingD_eqD : Binds K fd_RankingD_eqD ["self", "other"] []
  m_RankingD_eqD : Meth K C "__eq__" a_RankingD_eqD
  a_l_purse : Addr
  fd_l_purse : FuncData
  F_l_purse : Fun K "_law_purse" "_law_purse" st_l_purse a_l_purse fd_l_purse
  b_l_purse : Binds K fd_l_purse ["_law_script", "_law_spot"] []
  g_l_purse : mg "_law_purse" = some (.ref a_l_purse)
  a_l_draw : Addr
  fd_l_draw : FuncData
  F_l_draw : Fun K "_law_draw" "_law_draw" st_l_draw a_l_draw fd_l_draw
  b_l_draw : Binds K fd_l_draw ["_law_purse_here", "_law_many"] []
  g_l_draw : mg "_law_draw" = some (.ref a_l_draw)
  a_l_things : Addr
  fd_l_things : FuncData
  F_l_things : Fun K "_law_things" "_law_things" st_l_things a_l_things fd_l_things
  b_l_things : Binds K fd_l_things ["_law_purse_here", "_law_many"] []
  g_l_things : mg "_law_things" = some (.ref a_l_things)
  a_l_order : Addr
  fd_l_order : FuncData
  F_l_order : Fun K "_law_order" "_law_order" st_l_order a_l_order fd_l_order
  b_l_order : Binds K fd_l_order ["_law_purse_here", "_law_things_here"] []
  g_l_order : mg "_law_order" = some (.ref a_l_order)
  a_l_near : Addr
  fd_l_near : FuncData
  F_l_near : Fun K "_law_near" "_law_near" st_l_near a_l_near fd_l_near
  b_l_near : Binds K fd_l_near ["_law_purse_here", "_law_rank"] []
  g_l_near : mg "_law_near" = some (.ref a_l_near)
  a_l_made : Addr
  fd_l_made : FuncData
  F_l_made : Fun K "_law_made" "_law_made" st_l_made a_l_made fd_l_made
  b_l_made : Binds K fd_l_made ["_law_purse_here", "_law_rank"] []
  g_l_made : mg "_law_made" = some (.ref a_l_made)
  a_l_shown : Addr
  fd_l_shown : FuncData
  F_l_shown : Fun K "_law_shown" "_law_shown" st_l_shown a_l_shown fd_l_shown
  b_l_shown : Binds K fd_l_shown ["_law_ranking", "_law_rank"] []
  g_l_shown : mg "_law_shown" = some (.ref a_l_shown)
  a_l_right : Addr
  fd_l_right : FuncData
  F_l_right : Fun K "_law_right" "_law_right" st_l_right a_l_right fd_l_right
  b_l_right : Binds K fd_l_right ["_law_purse_here"] []
  g_l_right : mg "_law_right" = some (.ref a_l_right)
  a_law : Addr
  fd_law : FuncData
  F_law : Fun K "law" "law" st_law a_law fd_law
  b_law : Binds K fd_law ["_law_script"] []
  g_law : mg "law" = some (.ref a_law)
  g_MOST_THINGS : ∃ t : Tok, mg "MOST_THINGS" = some (.int 10 t)
  g_LETTERS : ∃ t : Tok, mg "LETTERS" = some (.str "abcdefghijklmnopqrstuvwxyz" t)
  g_DIGITS : ∃ t : Tok, mg "DIGITS" = some (.str "0123456789" t)
  g_LONGEST_NAME : ∃ t : Tok, mg "LONGEST_NAME" = some (.int 8 t)
  n_len : mg "len" = none
  n_isinstance : mg "isinstance" = none
  n_all : mg "all" = none
  n_enumerate : mg "enumerate" = none
  n_tuple : mg "tuple" = none
  n_sorted : mg "sorted" = none
  n_abs : mg "abs" = none
  n_int : mg "int" = none
  n_divmod : mg "divmod" = none
  n_range : mg "range" = none
  n_list : mg "list" = none
  n_max : mg "max" = none
  n_min : mg "min" = none
  n_str : mg "str" = none
  n_bool : mg "bool" = none
  n_repr : mg "repr" = none
  n_zip : mg "zip" = none
theorem tx_of {K : PySem.W.Frag} {h : Heap} {mg : Str → Option Value} {fa : Addr} (X : K.In h) (G : h.Ns mainGlobals mg) (hfa : mg "law" = some (.ref fa))
    {C_Ranking : Addr}
    {f_is_index : Addr} {od_is_index an_is_index : Option Addr} {sl_is_index : Array (Option Value)} {oc_is_index kV_is_index dc_is_index pm_is_index cd_is_index ct_is_index : Value}
    {f_is_name : Addr} {od_is_name an_is_name : Option Addr} {sl_is_name : Array (Option Value)} {oc_is_name kV_is_name dc_is_name pm_is_name cd_is_name ct_is_name : Value}
    {f_is_filled_tuple : Addr} {od_is_filled_tuple an_is_filled_tuple : Option Addr} {sl_is_filled_tuple : Array (Option Value)} {oc_is_filled_tuple kV_is_filled_tuple dc_is_filled_tuple pm_is_filled_tuple cd_is_filled_tuple ct_is_filled_tuple : Value}
    {f_is_one_of : Addr} {od_is_one_of an_is_one_of : Option Addr} {sl_is_one_of : Array (Option Value)} {oc_is_one_of kV_is_one_of dc_is_one_of pm_is_one_of cd_is_one_of ct_is_one_of : Value}
    {f_first_wrong_in_row : Addr} {od_first_wrong_in_row an_first_wrong_in_row : Option Addr} {sl_first_wrong_in_row : Array (Option Value)} {oc_first_wrong_in_row kV_first_wrong_in_row dc_first_wrong_in_row pm_first_wrong_in_row cd_first_wrong_in_row ct_first_wrong_in_row : Value}
    {f_check_row : Addr} {od_check_row an_check_row : Option Addr} {sl_check_row : Array (Option Value)} {oc_check_row kV_check_row dc_check_row pm_check_row cd_check_row ct_check_row : Value}
    {f_RankingD_initD : Addr} {od_RankingD_initD an_RankingD_initD : Option Addr} {sl_RankingD_initD : Array (Option Value)} {oc_RankingD_initD kV_RankingD_initD dc_RankingD_initD pm_RankingD_initD cd_RankingD_initD ct_RankingD_initD : Value}
    {f_Ranking_of : Addr} {od_Ranking_of an_Ranking_of : Option Addr} {sl_Ranking_of : Array (Option Value)} {oc_Ranking_of kV_Ranking_of dc_Ranking_of pm_Ranking_of cd_Ranking_of ct_Ranking_of : Value}
    {q_Ranking_of : Addr} {rest_Ranking_of : List Value}
    {f_Ranking_read : Addr} {od_Ranking_read an_Ranking_read : Option Addr} {sl_Ranking_read : Array (Option Value)} {oc_Ranking_read kV_Ranking_read dc_Ranking_read pm_Ranking_read cd_Ranking_read ct_Ranking_read : Value}
    {q_Ranking_read : Addr} {rest_Ranking_read : List Value}
    {f_Ranking_row : Addr} {od_Ranking_row an_Ranking_row : Option Addr} {sl_Ranking_row : Array (Option Value)} {oc_Ranking_row kV_Ranking_row dc_Ranking_row pm_Ranking_row cd_Ranking_row ct_Ranking_row : Value}
    {q_Ranking_row : Addr} {rest_Ranking_row : List Value}
    {f_Ranking_things : Addr} {od_Ranking_things an_Ranking_things : Option Addr} {sl_Ranking_things : Array (Option Value)} {oc_Ranking_things kV_Ranking_things dc_Ranking_things pm_Ranking_things cd_Ranking_things ct_Ranking_things : Value}
    {q_Ranking_things : Addr} {rest_Ranking_things : List Value}
    {f_RankingD_getitemD : Addr} {od_RankingD_getitemD an_RankingD_getitemD : Option Addr} {sl_RankingD_getitemD : Array (Option Value)} {oc_RankingD_getitemD kV_RankingD_getitemD dc_RankingD_getitemD pm_RankingD_getitemD cd_RankingD_getitemD ct_RankingD_getitemD : Value}
    {f_RankingD_containsD : Addr} {od_RankingD_containsD an_RankingD_containsD : Option Addr} {sl_RankingD_containsD : Array (Option Value)} {oc_RankingD_containsD kV_RankingD_containsD dc_RankingD_containsD pm_RankingD_containsD cd_RankingD_containsD ct_RankingD_containsD : Value}
    {f_RankingD_lenD : Addr} {od_RankingD_lenD an_RankingD_lenD : Option Addr} {sl_RankingD_lenD : Array (Option Value)} {oc_RankingD_lenD kV_RankingD_lenD dc_RankingD_lenD pm_RankingD_lenD cd_RankingD_lenD ct_RankingD_lenD : Value}
    {f_RankingD_strD : Addr} {od_RankingD_strD an_RankingD_strD : Option Addr} {sl_RankingD_strD : Array (Option Value)} {oc_RankingD_strD kV_RankingD_strD dc_RankingD_strD pm_RankingD_strD cd_RankingD_strD ct_RankingD_strD : Value}
    {f_RankingD_reprD : Addr} {od_RankingD_reprD an_RankingD_reprD : Option Addr} {sl_RankingD_reprD : Array (Option Value)} {oc_RankingD_reprD kV_RankingD_reprD dc_RankingD_reprD pm_RankingD_reprD cd_RankingD_reprD ct_RankingD_reprD : Value}
    {f_RankingD_eqD : Addr} {od_RankingD_eqD an_RankingD_eqD : Option Addr} {sl_RankingD_eqD : Array (Option Value)} {oc_RankingD_eqD kV_RankingD_eqD dc_RankingD_eqD pm_RankingD_eqD cd_RankingD_eqD ct_RankingD_eqD : Value}
    {f_l_purse : Addr} {od_l_purse an_l_purse : Option Addr} {sl_l_purse : Array (Option Value)} {oc_l_purse kV_l_purse dc_l_purse pm_l_purse cd_l_purse ct_l_purse : Value}
    {f_l_draw : Addr} {od_l_draw an_l_draw : Option Addr} {sl_l_draw : Array (Option Value)} {oc_l_draw kV_l_draw dc_l_draw pm_l_draw cd_l_draw ct_l_draw : Value}
    {f_l_things : Addr} {od_l_things an_l_things : Option Addr} {sl_l_things : Array (Option Value)} {oc_l_things kV_l_things dc_l_things pm_l_things cd_l_things ct_l_things : Value}
    {f_l_order : Addr} {od_l_order an_l_order : Option Addr} {sl_l_order : Array (Option Value)} {oc_l_order kV_l_order dc_l_order pm_l_order cd_l_order ct_l_order : Value}
    {f_l_near : Addr} {od_l_near an_l_near : Option Addr} {sl_l_near : Array (Option Value)} {oc_l_near kV_l_near dc_l_near pm_l_near cd_l_near ct_l_near : Value}
    {f_l_made : Addr} {od_l_made an_l_made : Option Addr} {sl_l_made : Array (Option Value)} {oc_l_made kV_l_made dc_l_made pm_l_made cd_l_made ct_l_made : Value}
    {f_l_shown : Addr} {od_l_shown an_l_shown : Option Addr} {sl_l_shown : Array (Option Value)} {oc_l_shown kV_l_shown dc_l_shown pm_l_shown cd_l_shown ct_l_shown : Value}
    {f_l_right : Addr} {od_l_right an_l_right : Option Addr} {sl_l_right : Array (Option Value)} {oc_l_right kV_l_right dc_l_right pm_l_right cd_l_right ct_l_right : Value}
    {f_law : Addr} {od_law an_law : Option Addr} {sl_law : Array (Option Value)} {oc_law kV_law dc_law pm_law cd_law ct_law : Value}
    {t_MOST_THINGS : Tok}
    {t_LETTERS : Tok}
    {t_DIGITS : Tok}
    {t_LONGEST_NAME : Tok}
    (cg_Ranking : PySem.W.nsIn K mainGlobals "Ranking" = some (some (.ref C_Ranking)))
    (cp_Ranking : PySem.W.plainGet K C_Ranking Str.empty = true)
    (ch_Ranking : PySem.W.hasDictIn K C_Ranking = true)
    (co_Ranking : PySem.W.plainOver K C_Ranking = true)
    (cs_Ranking : PySem.W.findIn K (.ref C_Ranking) "__setattr__" = some (some (.builtin "object.__setattr__")))
    (cm_Ranking : PySem.W.makesIn K C_Ranking = true)
    (ck_Ranking : PySem.W.keepIn K (.ref C_Ranking) = true)
    (cne_Ranking : PySem.W.findIn K (.ref C_Ranking) "__ne__" = some (some (.builtin "object.__ne__")))
    (cob_Ranking : PySem.W.mroIn K C_Ranking (.type "object") = some true)
    (cca_Ranking : PySem.W.findIn K (.ref C_Ranking) "__class__" = some (some (.builtin "object.__class__")))
    (ccb_Ranking : PySem.W.specialIn K (.builtin "object.__class__") "__get__" = some (some (.builtin "getset_descriptor.__get__")))
    (ccc_Ranking : PySem.W.takesIn K (.builtin "object.__class__") = some true)
    (cbo_Ranking : PySem.W.findIn K (.ref C_Ranking) "__bool__" = some none)
    (cfm_Ranking : PySem.W.findIn K (.ref C_Ranking) "__format__" = some (some (.builtin "object.__format__")))
    (crd_Ranking : PySem.W.readsIn K C_Ranking (.type "type") = true)
    (cty_Ranking : PySem.W.typeIn K (.ref C_Ranking) = some (.type "type"))
    (cga_Ranking : PySem.W.specialIn K (.ref C_Ranking) "__getattribute__" = some (some (.builtin "type.__getattribute__")))
    (cn_Ranking__row : PySem.W.findIn K (.ref C_Ranking) "_row" = some none)
    (cn_Ranking__things : PySem.W.findIn K (.ref C_Ranking) "_things" = some none)
    (a_is_index : PySem.W.nsIn K mainGlobals "is_index" = some (some (.ref f_is_index)))
    (l_is_index : K.lookup f_is_index = some ⟨oc_is_index, od_is_index, .func (PySem.W.fnOf "is_index" "is_index" (defArgs st_is_index) (defBody st_is_index) (defScope st_is_index) .none kV_is_index dc_is_index pm_is_index an_is_index cd_is_index ct_is_index), sl_is_index⟩)
    (c_is_index : PySem.W.codeIn K cd_is_index "is_index" = true)
    (k_is_index : PySem.W.keepIn K (.ref f_is_index) = true)
    (a_is_name : PySem.W.nsIn K mainGlobals "is_name" = some (some (.ref f_is_name)))
    (l_is_name : K.lookup f_is_name = some ⟨oc_is_name, od_is_name, .func (PySem.W.fnOf "is_name" "is_name" (defArgs st_is_name) (defBody st_is_name) (defScope st_is_name) .none kV_is_name dc_is_name pm_is_name an_is_name cd_is_name ct_is_name), sl_is_name⟩)
    (c_is_name : PySem.W.codeIn K cd_is_name "is_name" = true)
    (k_is_name : PySem.W.keepIn K (.ref f_is_name) = true)
    (a_is_filled_tuple : PySem.W.nsIn K mainGlobals "is_filled_tuple" = some (some (.ref f_is_filled_tuple)))
    (l_is_filled_tuple : K.lookup f_is_filled_tuple = some ⟨oc_is_filled_tuple, od_is_filled_tuple, .func (PySem.W.fnOf "is_filled_tuple" "is_filled_tuple" (defArgs st_is_filled_tuple) (defBody st_is_filled_tuple) (defScope st_is_filled_tuple) .none kV_is_filled_tuple dc_is_filled_tuple pm_is_filled_tuple an_is_filled_tuple cd_is_filled_tuple ct_is_filled_tuple), sl_is_filled_tuple⟩)
    (c_is_filled_tuple : PySem.W.codeIn K cd_is_filled_tuple "is_filled_tuple" = true)
    (k_is_filled_tuple : PySem.W.keepIn K (.ref f_is_filled_tuple) = true)
    (a_is_one_of : PySem.W.nsIn K mainGlobals "is_one_of" = some (some (.ref f_is_one_of)))
    (l_is_one_of : K.lookup f_is_one_of = some ⟨oc_is_one_of, od_is_one_of, .func (PySem.W.fnOf "is_one_of" "is_one_of" (defArgs st_is_one_of) (defBody st_is_one_of) (defScope st_is_one_of) .none kV_is_one_of dc_is_one_of pm_is_one_of an_is_one_of cd_is_one_of ct_is_one_of), sl_is_one_of⟩)
    (c_is_one_of : PySem.W.codeIn K cd_is_one_of "is_one_of" = true)
    (k_is_one_of : PySem.W.keepIn K (.ref f_is_one_of) = true)
    (a_first_wrong_in_row : PySem.W.nsIn K mainGlobals "first_wrong_in_row" = some (some (.ref f_first_wrong_in_row)))
    (l_first_wrong_in_row : K.lookup f_first_wrong_in_row = some ⟨oc_first_wrong_in_row, od_first_wrong_in_row, .func (PySem.W.fnOf "first_wrong_in_row" "first_wrong_in_row" (defArgs st_first_wrong_in_row) (defBody st_first_wrong_in_row) (defScope st_first_wrong_in_row) .none kV_first_wrong_in_row dc_first_wrong_in_row pm_first_wrong_in_row an_first_wrong_in_row cd_first_wrong_in_row ct_first_wrong_in_row), sl_first_wrong_in_row⟩)
    (c_first_wrong_in_row : PySem.W.codeIn K cd_first_wrong_in_row "first_wrong_in_row" = true)
    (k_first_wrong_in_row : PySem.W.keepIn K (.ref f_first_wrong_in_row) = true)
    (a_check_row : PySem.W.nsIn K mainGlobals "check_row" = some (some (.ref f_check_row)))
    (l_check_row : K.lookup f_check_row = some ⟨oc_check_row, od_check_row, .func (PySem.W.fnOf "check_row" "check_row" (defArgs st_check_row) (defBody st_check_row) (defScope st_check_row) .none kV_check_row dc_check_row pm_check_row an_check_row cd_check_row ct_check_row), sl_check_row⟩)
    (c_check_row : PySem.W.codeIn K cd_check_row "check_row" = true)
    (k_check_row : PySem.W.keepIn K (.ref f_check_row) = true)
    (a_RankingD_initD : PySem.W.findIn K (.ref C_Ranking) "__init__" = some (some (.ref f_RankingD_initD)))
    (i_RankingD_initD : PySem.W.isFn K (.ref f_RankingD_initD) = true)
    (l_RankingD_initD : K.lookup f_RankingD_initD = some ⟨oc_RankingD_initD, od_RankingD_initD, .func (PySem.W.fnOf "__init__" "Ranking.__init__" (defArgs st_RankingD_initD) (defBody st_RankingD_initD) (defScope st_RankingD_initD) .none kV_RankingD_initD dc_RankingD_initD pm_RankingD_initD an_RankingD_initD cd_RankingD_initD ct_RankingD_initD), sl_RankingD_initD⟩)
    (c_RankingD_initD : PySem.W.codeIn K cd_RankingD_initD "Ranking.__init__" = true)
    (k_RankingD_initD : PySem.W.keepIn K (.ref f_RankingD_initD) = true)
    (a_Ranking_of : PySem.W.findCls K (.ref C_Ranking) (.type "type") "of" = some (.get (.builtin "classmethod.__get__") (.ref q_Ranking_of) .none (.ref C_Ranking)))
    (pr_Ranking_of : PySem.W.recIn K q_Ranking_of "classmethod" = some (.ref f_Ranking_of :: rest_Ranking_of))
    (fi_Ranking_of : PySem.W.fnIn K f_Ranking_of = true)
    (l_Ranking_of : K.lookup f_Ranking_of = some ⟨oc_Ranking_of, od_Ranking_of, .func (PySem.W.fnOf "of" "Ranking.of" (defArgs st_Ranking_of) (defBody st_Ranking_of) (defScope st_Ranking_of) .none kV_Ranking_of dc_Ranking_of pm_Ranking_of an_Ranking_of cd_Ranking_of ct_Ranking_of), sl_Ranking_of⟩)
    (c_Ranking_of : PySem.W.codeIn K cd_Ranking_of "Ranking.of" = true)
    (k_Ranking_of : PySem.W.keepIn K (.ref f_Ranking_of) = true)
    (a_Ranking_read : PySem.W.findCls K (.ref C_Ranking) (.type "type") "read" = some (.get (.builtin "classmethod.__get__") (.ref q_Ranking_read) .none (.ref C_Ranking)))
    (pr_Ranking_read : PySem.W.recIn K q_Ranking_read "classmethod" = some (.ref f_Ranking_read :: rest_Ranking_read))
    (fi_Ranking_read : PySem.W.fnIn K f_Ranking_read = true)
    (l_Ranking_read : K.lookup f_Ranking_read = some ⟨oc_Ranking_read, od_Ranking_read, .func (PySem.W.fnOf "read" "Ranking.read" (defArgs st_Ranking_read) (defBody st_Ranking_read) (defScope st_Ranking_read) .none kV_Ranking_read dc_Ranking_read pm_Ranking_read an_Ranking_read cd_Ranking_read ct_Ranking_read), sl_Ranking_read⟩)
    (c_Ranking_read : PySem.W.codeIn K cd_Ranking_read "Ranking.read" = true)
    (k_Ranking_read : PySem.W.keepIn K (.ref f_Ranking_read) = true)
    (a_Ranking_row : PySem.W.findIn K (.ref C_Ranking) "row" = some (some (.ref q_Ranking_row)))
    (pg_Ranking_row : PySem.W.specialIn K (.ref q_Ranking_row) "__get__" = some (some (.builtin "property.__get__")))
    (pt_Ranking_row : PySem.W.takesIn K (.ref q_Ranking_row) = some true)
    (pr_Ranking_row : PySem.W.recIn K q_Ranking_row "property" = some (.ref f_Ranking_row :: rest_Ranking_row))
    (l_Ranking_row : K.lookup f_Ranking_row = some ⟨oc_Ranking_row, od_Ranking_row, .func (PySem.W.fnOf "row" "Ranking.row" (defArgs st_Ranking_row) (defBody st_Ranking_row) (defScope st_Ranking_row) .none kV_Ranking_row dc_Ranking_row pm_Ranking_row an_Ranking_row cd_Ranking_row ct_Ranking_row), sl_Ranking_row⟩)
    (c_Ranking_row : PySem.W.codeIn K cd_Ranking_row "Ranking.row" = true)
    (k_Ranking_row : PySem.W.keepIn K (.ref f_Ranking_row) = true)
    (a_Ranking_things : PySem.W.findIn K (.ref C_Ranking) "things" = some (some (.ref q_Ranking_things)))
    (pg_Ranking_things : PySem.W.specialIn K (.ref q_Ranking_things) "__get__" = some (some (.builtin "property.__get__")))
    (pt_Ranking_things : PySem.W.takesIn K (.ref q_Ranking_things) = some true)
    (pr_Ranking_things : PySem.W.recIn K q_Ranking_things "property" = some (.ref f_Ranking_things :: rest_Ranking_things))
    (l_Ranking_things : K.lookup f_Ranking_things = some ⟨oc_Ranking_things, od_Ranking_things, .func (PySem.W.fnOf "things" "Ranking.things" (defArgs st_Ranking_things) (defBody st_Ranking_things) (defScope st_Ranking_things) .none kV_Ranking_things dc_Ranking_things pm_Ranking_things an_Ranking_things cd_Ranking_things ct_Ranking_things), sl_Ranking_things⟩)
    (c_Ranking_things : PySem.W.codeIn K cd_Ranking_things "Ranking.things" = true)
    (k_Ranking_things : PySem.W.keepIn K (.ref f_Ranking_things) = true)
    (a_RankingD_getitemD : PySem.W.findIn K (.ref C_Ranking) "__getitem__" = some (some (.ref f_RankingD_getitemD)))
    (i_RankingD_getitemD : PySem.W.isFn K (.ref f_RankingD_getitemD) = true)
    (fi_RankingD_getitemD : PySem.W.fnIn K f_RankingD_getitemD = true)
    (l_RankingD_getitemD : K.lookup f_RankingD_getitemD = some ⟨oc_RankingD_getitemD, od_RankingD_getitemD, .func (PySem.W.fnOf "__getitem__" "Ranking.__getitem__" (defArgs st_RankingD_getitemD) (defBody st_RankingD_getitemD) (defScope st_RankingD_getitemD) .none kV_RankingD_getitemD dc_RankingD_getitemD pm_RankingD_getitemD an_RankingD_getitemD cd_RankingD_getitemD ct_RankingD_getitemD), sl_RankingD_getitemD⟩)
    (c_RankingD_getitemD : PySem.W.codeIn K cd_RankingD_getitemD "Ranking.__getitem__" = true)
    (k_RankingD_getitemD : PySem.W.keepIn K (.ref f_RankingD_getitemD) = true)
    (a_RankingD_containsD : PySem.W.findIn K (.ref C_Ranking) "__contains__" = some (some (.ref f_RankingD_containsD)))
    (i_RankingD_containsD : PySem.W.isFn K (.ref f_RankingD_containsD) = true)
    (l_RankingD_containsD : K.lookup f_RankingD_containsD = some ⟨oc_RankingD_containsD, od_RankingD_containsD, .func (PySem.W.fnOf "__contains__" "Ranking.__contains__" (defArgs st_RankingD_containsD) (defBody st_RankingD_containsD) (defScope st_RankingD_containsD) .none kV_RankingD_containsD dc_RankingD_containsD pm_RankingD_containsD an_RankingD_containsD cd_RankingD_containsD ct_RankingD_containsD), sl_RankingD_containsD⟩)
    (c_RankingD_containsD : PySem.W.codeIn K cd_RankingD_containsD "Ranking.__contains__" = true)
    (k_RankingD_containsD : PySem.W.keepIn K (.ref f_RankingD_containsD) = true)
    (a_RankingD_lenD : PySem.W.findIn K (.ref C_Ranking) "__len__" = some (some (.ref f_RankingD_lenD)))
    (i_RankingD_lenD : PySem.W.isFn K (.ref f_RankingD_lenD) = true)
    (l_RankingD_lenD : K.lookup f_RankingD_lenD = some ⟨oc_RankingD_lenD, od_RankingD_lenD, .func (PySem.W.fnOf "__len__" "Ranking.__len__" (defArgs st_RankingD_lenD) (defBody st_RankingD_lenD) (defScope st_RankingD_lenD) .none kV_RankingD_lenD dc_RankingD_lenD pm_RankingD_lenD an_RankingD_lenD cd_RankingD_lenD ct_RankingD_lenD), sl_RankingD_lenD⟩)
    (c_RankingD_lenD : PySem.W.codeIn K cd_RankingD_lenD "Ranking.__len__" = true)
    (k_RankingD_lenD : PySem.W.keepIn K (.ref f_RankingD_lenD) = true)
    (a_RankingD_strD : PySem.W.findIn K (.ref C_Ranking) "__str__" = some (some (.ref f_RankingD_strD)))
    (i_RankingD_strD : PySem.W.isFn K (.ref f_RankingD_strD) = true)
    (l_RankingD_strD : K.lookup f_RankingD_strD = some ⟨oc_RankingD_strD, od_RankingD_strD, .func (PySem.W.fnOf "__str__" "Ranking.__str__" (defArgs st_RankingD_strD) (defBody st_RankingD_strD) (defScope st_RankingD_strD) .none kV_RankingD_strD dc_RankingD_strD pm_RankingD_strD an_RankingD_strD cd_RankingD_strD ct_RankingD_strD), sl_RankingD_strD⟩)
    (c_RankingD_strD : PySem.W.codeIn K cd_RankingD_strD "Ranking.__str__" = true)
    (k_RankingD_strD : PySem.W.keepIn K (.ref f_RankingD_strD) = true)
    (a_RankingD_reprD : PySem.W.findIn K (.ref C_Ranking) "__repr__" = some (some (.ref f_RankingD_reprD)))
    (i_RankingD_reprD : PySem.W.isFn K (.ref f_RankingD_reprD) = true)
    (l_RankingD_reprD : K.lookup f_RankingD_reprD = some ⟨oc_RankingD_reprD, od_RankingD_reprD, .func (PySem.W.fnOf "__repr__" "Ranking.__repr__" (defArgs st_RankingD_reprD) (defBody st_RankingD_reprD) (defScope st_RankingD_reprD) .none kV_RankingD_reprD dc_RankingD_reprD pm_RankingD_reprD an_RankingD_reprD cd_RankingD_reprD ct_RankingD_reprD), sl_RankingD_reprD⟩)
    (c_RankingD_reprD : PySem.W.codeIn K cd_RankingD_reprD "Ranking.__repr__" = true)
    (k_RankingD_reprD : PySem.W.keepIn K (.ref f_RankingD_reprD) = true)
    (a_RankingD_eqD : PySem.W.findIn K (.ref C_Ranking) "__eq__" = some (some (.ref f_RankingD_eqD)))
    (i_RankingD_eqD : PySem.W.isFn K (.ref f_RankingD_eqD) = true)
    (l_RankingD_eqD : K.lookup f_RankingD_eqD = some ⟨oc_RankingD_eqD, od_RankingD_eqD, .func (PySem.W.fnOf "__eq__" "Ranking.__eq__" (defArgs st_RankingD_eqD) (defBody st_RankingD_eqD) (defScope st_RankingD_eqD) .none kV_RankingD_eqD dc_RankingD_eqD pm_RankingD_eqD an_RankingD_eqD cd_RankingD_eqD ct_RankingD_eqD), sl_RankingD_eqD⟩)
    (c_RankingD_eqD : PySem.W.codeIn K cd_RankingD_eqD "Ranking.__eq__" = true)
    (k_RankingD_eqD : PySem.W.keepIn K (.ref f_RankingD_eqD) = true)
    (a_l_purse : PySem.W.nsIn K mainGlobals "_law_purse" = some (some (.ref f_l_purse)))
    (l_l_purse : K.lookup f_l_purse = some ⟨oc_l_purse, od_l_purse, .func (PySem.W.fnOf "_law_purse" "_law_purse" (defArgs st_l_purse) (defBody st_l_purse) (defScope st_l_purse) .none kV_l_purse dc_l_purse pm_l_purse an_l_purse cd_l_purse ct_l_purse), sl_l_purse⟩)
    (c_l_purse : PySem.W.codeIn K cd_l_purse "_law_purse" = true)
    (k_l_purse : PySem.W.keepIn K (.ref f_l_purse) = true)
    (a_l_draw : PySem.W.nsIn K mainGlobals "_law_draw" = some (some (.ref f_l_draw)))
    (l_l_draw : K.lookup f_l_draw = some ⟨oc_l_draw, od_l_draw, .func (PySem.W.fnOf "_law_draw" "_law_draw" (defArgs st_l_draw) (defBody st_l_draw) (defScope st_l_draw) .none kV_l_draw dc_l_draw pm_l_draw an_l_draw cd_l_draw ct_l_draw), sl_l_draw⟩)
    (c_l_draw : PySem.W.codeIn K cd_l_draw "_law_draw" = true)
    (k_l_draw : PySem.W.keepIn K (.ref f_l_draw) = true)
    (a_l_things : PySem.W.nsIn K mainGlobals "_law_things" = some (some (.ref f_l_things)))
    (l_l_things : K.lookup f_l_things = some ⟨oc_l_things, od_l_things, .func (PySem.W.fnOf "_law_things" "_law_things" (defArgs st_l_things) (defBody st_l_things) (defScope st_l_things) .none kV_l_things dc_l_things pm_l_things an_l_things cd_l_things ct_l_things), sl_l_things⟩)
    (c_l_things : PySem.W.codeIn K cd_l_things "_law_things" = true)
    (k_l_things : PySem.W.keepIn K (.ref f_l_things) = true)
    (a_l_order : PySem.W.nsIn K mainGlobals "_law_order" = some (some (.ref f_l_order)))
    (l_l_order : K.lookup f_l_order = some ⟨oc_l_order, od_l_order, .func (PySem.W.fnOf "_law_order" "_law_order" (defArgs st_l_order) (defBody st_l_order) (defScope st_l_order) .none kV_l_order dc_l_order pm_l_order an_l_order cd_l_order ct_l_order), sl_l_order⟩)
    (c_l_order : PySem.W.codeIn K cd_l_order "_law_order" = true)
    (k_l_order : PySem.W.keepIn K (.ref f_l_order) = true)
    (a_l_near : PySem.W.nsIn K mainGlobals "_law_near" = some (some (.ref f_l_near)))
    (l_l_near : K.lookup f_l_near = some ⟨oc_l_near, od_l_near, .func (PySem.W.fnOf "_law_near" "_law_near" (defArgs st_l_near) (defBody st_l_near) (defScope st_l_near) .none kV_l_near dc_l_near pm_l_near an_l_near cd_l_near ct_l_near), sl_l_near⟩)
    (c_l_near : PySem.W.codeIn K cd_l_near "_law_near" = true)
    (k_l_near : PySem.W.keepIn K (.ref f_l_near) = true)
    (a_l_made : PySem.W.nsIn K mainGlobals "_law_made" = some (some (.ref f_l_made)))
    (l_l_made : K.lookup f_l_made = some ⟨oc_l_made, od_l_made, .func (PySem.W.fnOf "_law_made" "_law_made" (defArgs st_l_made) (defBody st_l_made) (defScope st_l_made) .none kV_l_made dc_l_made pm_l_made an_l_made cd_l_made ct_l_made), sl_l_made⟩)
    (c_l_made : PySem.W.codeIn K cd_l_made "_law_made" = true)
    (k_l_made : PySem.W.keepIn K (.ref f_l_made) = true)
    (a_l_shown : PySem.W.nsIn K mainGlobals "_law_shown" = some (some (.ref f_l_shown)))
    (l_l_shown : K.lookup f_l_shown = some ⟨oc_l_shown, od_l_shown, .func (PySem.W.fnOf "_law_shown" "_law_shown" (defArgs st_l_shown) (defBody st_l_shown) (defScope st_l_shown) .none kV_l_shown dc_l_shown pm_l_shown an_l_shown cd_l_shown ct_l_shown), sl_l_shown⟩)
    (c_l_shown : PySem.W.codeIn K cd_l_shown "_law_shown" = true)
    (k_l_shown : PySem.W.keepIn K (.ref f_l_shown) = true)
    (a_l_right : PySem.W.nsIn K mainGlobals "_law_right" = some (some (.ref f_l_right)))
    (l_l_right : K.lookup f_l_right = some ⟨oc_l_right, od_l_right, .func (PySem.W.fnOf "_law_right" "_law_right" (defArgs st_l_right) (defBody st_l_right) (defScope st_l_right) .none kV_l_right dc_l_right pm_l_right an_l_right cd_l_right ct_l_right), sl_l_right⟩)
    (c_l_right : PySem.W.codeIn K cd_l_right "_law_right" = true)
    (k_l_right : PySem.W.keepIn K (.ref f_l_right) = true)
    (a_law : PySem.W.nsIn K mainGlobals "law" = some (some (.ref f_law)))
    (l_law : K.lookup f_law = some ⟨oc_law, od_law, .func (PySem.W.fnOf "law" "law" (defArgs st_law) (defBody st_law) (defScope st_law) .none kV_law dc_law pm_law an_law cd_law ct_law), sl_law⟩)
    (c_law : PySem.W.codeIn K cd_law "law" = true)
    (k_law : PySem.W.keepIn K (.ref f_law) = true)
    (v_MOST_THINGS : PySem.W.nsIn K mainGlobals "MOST_THINGS" = some (some (.int 10 t_MOST_THINGS)))
    (v_LETTERS : PySem.W.nsIn K mainGlobals "LETTERS" = some (some (.str "abcdefghijklmnopqrstuvwxyz" t_LETTERS)))
    (v_DIGITS : PySem.W.nsIn K mainGlobals "DIGITS" = some (some (.str "0123456789" t_DIGITS)))
    (v_LONGEST_NAME : PySem.W.nsIn K mainGlobals "LONGEST_NAME" = some (some (.int 8 t_LONGEST_NAME)))
    (z_len : PySem.W.nsIn K mainGlobals "len" = some none)
    (z_isinstance : PySem.W.nsIn K mainGlobals "isinstance" = some none)
    (z_all : PySem.W.nsIn K mainGlobals "all" = some none)
    (z_enumerate : PySem.W.nsIn K mainGlobals "enumerate" = some none)
    (z_tuple : PySem.W.nsIn K mainGlobals "tuple" = some none)
    (z_sorted : PySem.W.nsIn K mainGlobals "sorted" = some none)
    (z_abs : PySem.W.nsIn K mainGlobals "abs" = some none)
    (z_int : PySem.W.nsIn K mainGlobals "int" = some none)
    (z_divmod : PySem.W.nsIn K mainGlobals "divmod" = some none)
    (z_range : PySem.W.nsIn K mainGlobals "range" = some none)
    (z_list : PySem.W.nsIn K mainGlobals "list" = some none)
    (z_max : PySem.W.nsIn K mainGlobals "max" = some none)
    (z_min : PySem.W.nsIn K mainGlobals "min" = some none)
    (z_str : PySem.W.nsIn K mainGlobals "str" = some none)
    (z_bool : PySem.W.nsIn K mainGlobals "bool" = some none)
    (z_repr : PySem.W.nsIn K mainGlobals "repr" = some none)
    (z_zip : PySem.W.nsIn K mainGlobals "zip" = some none) : ∃ T : Tx K mg, T.a_law = fa := by
  have e := hfa.symm.trans (PySem.W.mg_of X G a_law)
  cases e
  exact ⟨{
    C := C_Ranking
    cl := ⟨cp_Ranking, ch_Ranking, co_Ranking, cs_Ranking⟩
    g_Ranking := PySem.W.mg_of X G cg_Ranking
    ne := cne_Ranking
    ob := cob_Ranking
    ty := fun e => .base (.ins e ⟨cp_Ranking, ch_Ranking, co_Ranking, cs_Ranking⟩ cca_Ranking ccb_Ranking ccc_Ranking cob_Ranking)
    nobool := cbo_Ranking
    fm := cfm_Ranking
    crd := ⟨crd_Ranking, cga_Ranking⟩
    cty := cty_Ranking
    no__row := cn_Ranking__row
    no__things := cn_Ranking__things
    a_is_index := f_is_index
    fd_is_index := _
    F_is_index := fun_mk (st := st_is_index) l_is_index c_is_index k_is_index
    b_is_index := (fun_mk (st := st_is_index) l_is_index c_is_index k_is_index).binds (ps := ["value", "many"]) fun _ _ _ _ _ _ us hl => match us, hl with | [_, _], _ => rfl
    g_is_index := PySem.W.mg_of X G a_is_index
    a_is_name := f_is_name
    fd_is_name := _
    F_is_name := fun_mk (st := st_is_name) l_is_name c_is_name k_is_name
    b_is_name := (fun_mk (st := st_is_name) l_is_name c_is_name k_is_name).binds (ps := ["value"]) fun _ _ _ _ _ _ us hl => match us, hl with | [_], _ => rfl
    g_is_name := PySem.W.mg_of X G a_is_name
    a_is_filled_tuple := f_is_filled_tuple
    fd_is_filled_tuple := _
    F_is_filled_tuple := fun_mk (st := st_is_filled_tuple) l_is_filled_tuple c_is_filled_tuple k_is_filled_tuple
    b_is_filled_tuple := (fun_mk (st := st_is_filled_tuple) l_is_filled_tuple c_is_filled_tuple k_is_filled_tuple).binds (ps := ["value"]) fun _ _ _ _ _ _ us hl => match us, hl with | [_], _ => rfl
    g_is_filled_tuple := PySem.W.mg_of X G a_is_filled_tuple
    a_is_one_of := f_is_one_of
    fd_is_one_of := _
    F_is_one_of := fun_mk (st := st_is_one_of) l_is_one_of c_is_one_of k_is_one_of
    b_is_one_of := (fun_mk (st := st_is_one_of) l_is_one_of c_is_one_of k_is_one_of).binds (ps := ["value", "things"]) fun _ _ _ _ _ _ us hl => match us, hl with | [_, _], _ => rfl
    g_is_one_of := PySem.W.mg_of X G a_is_one_of
    a_first_wrong_in_row := f_first_wrong_in_row
    fd_first_wrong_in_row := _
    F_first_wrong_in_row := fun_mk (st := st_first_wrong_in_row) l_first_wrong_in_row c_first_wrong_in_row k_first_wrong_in_row
    b_first_wrong_in_row := (fun_mk (st := st_first_wrong_in_row) l_first_wrong_in_row c_first_wrong_in_row k_first_wrong_in_row).binds (ps := ["row"]) fun _ _ _ _ _ _ us hl => match us, hl with | [_], _ => rfl
    g_first_wrong_in_row := PySem.W.mg_of X G a_first_wrong_in_row
    a_check_row := f_check_row
    fd_check_row := _
    F_check_row := fun_mk (st := st_check_row) l_check_row c_check_row k_check_row
    b_check_row := (fun_mk (st := st_check_row) l_check_row c_check_row k_check_row).binds (ps := ["row"]) fun _ _ _ _ _ _ us hl => match us, hl with | [_], _ => rfl
    g_check_row := PySem.W.mg_of X G a_check_row
    a_RankingD_initD := f_RankingD_initD
    fd_RankingD_initD := _
    F_RankingD_initD := fun_mk (st := st_RankingD_initD) l_RankingD_initD c_RankingD_initD k_RankingD_initD
    b_RankingD_initD := (fun_mk (st := st_RankingD_initD) l_RankingD_initD c_RankingD_initD k_RankingD_initD).binds (ps := ["self", "row"]) fun _ _ _ _ _ _ us hl => match us, hl with | [_, _], _ => rfl
    mkc := ⟨cm_Ranking, a_RankingD_initD, i_RankingD_initD, ck_Ranking⟩
    kb_RankingD_initD := ⟨fun _ us ws _ l1 l2 => match us, l1, ws, l2 with | [_], _, [_], _ => .of_eq rfl, fun r1 r2 => r1.append r2⟩
    a_Ranking_of := f_Ranking_of
    fd_Ranking_of := _
    F_Ranking_of := fun_mk (st := st_Ranking_of) l_Ranking_of c_Ranking_of k_Ranking_of
    bv_Ranking_of := by exact bindV_of (fun _ => rfl) (fun _ _ => rfl) (fun _ _ _ => rfl) (fun _ _ _ _ => rfl) (fun _ _ _ _ _ => rfl) (fun _ _ _ _ _ _ => rfl)
    q_Ranking_of := q_Ranking_of
    cm_Ranking_of := ⟨a_Ranking_of, ⟨_, pr_Ranking_of⟩, fi_Ranking_of⟩
    a_Ranking_read := f_Ranking_read
    fd_Ranking_read := _
    F_Ranking_read := fun_mk (st := st_Ranking_read) l_Ranking_read c_Ranking_read k_Ranking_read
    b_Ranking_read := (fun_mk (st := st_Ranking_read) l_Ranking_read c_Ranking_read k_Ranking_read).binds (ps := ["cls", "text"]) fun _ _ _ _ _ _ us hl => match us, hl with | [_, _], _ => rfl
    q_Ranking_read := q_Ranking_read
    cm_Ranking_read := ⟨a_Ranking_read, ⟨_, pr_Ranking_read⟩, fi_Ranking_read⟩
    kb_Ranking_read := ⟨fun _ us ws _ l1 l2 => match us, l1, ws, l2 with | [_], _, [_], _ => .of_eq rfl, fun r1 r2 => r1.append r2⟩
    a_Ranking_row := f_Ranking_row
    fd_Ranking_row := _
    F_Ranking_row := fun_mk (st := st_Ranking_row) l_Ranking_row c_Ranking_row k_Ranking_row
    b_Ranking_row := (fun_mk (st := st_Ranking_row) l_Ranking_row c_Ranking_row k_Ranking_row).binds (ps := ["self"]) fun _ _ _ _ _ _ us hl => match us, hl with | [_], _ => rfl
    q_Ranking_row := q_Ranking_row
    p_row := ⟨a_Ranking_row, pg_Ranking_row, pt_Ranking_row, ⟨_, pr_Ranking_row⟩⟩
    a_Ranking_things := f_Ranking_things
    fd_Ranking_things := _
    F_Ranking_things := fun_mk (st := st_Ranking_things) l_Ranking_things c_Ranking_things k_Ranking_things
    b_Ranking_things := (fun_mk (st := st_Ranking_things) l_Ranking_things c_Ranking_things k_Ranking_things).binds (ps := ["self"]) fun _ _ _ _ _ _ us hl => match us, hl with | [_], _ => rfl
    q_Ranking_things := q_Ranking_things
    p_things := ⟨a_Ranking_things, pg_Ranking_things, pt_Ranking_things, ⟨_, pr_Ranking_things⟩⟩
    a_RankingD_getitemD := f_RankingD_getitemD
    fd_RankingD_getitemD := _
    F_RankingD_getitemD := fun_mk (st := st_RankingD_getitemD) l_RankingD_getitemD c_RankingD_getitemD k_RankingD_getitemD
    b_RankingD_getitemD := (fun_mk (st := st_RankingD_getitemD) l_RankingD_getitemD c_RankingD_getitemD k_RankingD_getitemD).binds (ps := ["self", "at"]) fun _ _ _ _ _ _ us hl => match us, hl with | [_, _], _ => rfl
    fi_RankingD_getitemD := fi_RankingD_getitemD
    m_RankingD_getitemD := ⟨a_RankingD_getitemD, i_RankingD_getitemD, k_RankingD_getitemD⟩
    a_RankingD_containsD := f_RankingD_containsD
    fd_RankingD_containsD := _
    F_RankingD_containsD := fun_mk (st := st_RankingD_containsD) l_RankingD_containsD c_RankingD_containsD k_RankingD_containsD
    b_RankingD_containsD := (fun_mk (st := st_RankingD_containsD) l_RankingD_containsD c_RankingD_containsD k_RankingD_containsD).binds (ps := ["self", "x"]) fun _ _ _ _ _ _ us hl => match us, hl with | [_, _], _ => rfl
    m_RankingD_containsD := ⟨a_RankingD_containsD, i_RankingD_containsD, k_RankingD_containsD⟩
    a_RankingD_lenD := f_RankingD_lenD
    fd_RankingD_lenD := _
    F_RankingD_lenD := fun_mk (st := st_RankingD_lenD) l_RankingD_lenD c_RankingD_lenD k_RankingD_lenD
    b_RankingD_lenD := (fun_mk (st := st_RankingD_lenD) l_RankingD_lenD c_RankingD_lenD k_RankingD_lenD).binds (ps := ["self"]) fun _ _ _ _ _ _ us hl => match us, hl with | [_], _ => rfl
    m_RankingD_lenD := ⟨a_RankingD_lenD, i_RankingD_lenD, k_RankingD_lenD⟩
    a_RankingD_strD := f_RankingD_strD
    fd_RankingD_strD := _
    F_RankingD_strD := fun_mk (st := st_RankingD_strD) l_RankingD_strD c_RankingD_strD k_RankingD_strD
    b_RankingD_strD := (fun_mk (st := st_RankingD_strD) l_RankingD_strD c_RankingD_strD k_RankingD_strD).binds (ps := ["self"]) fun _ _ _ _ _ _ us hl => match us, hl with | [_], _ => rfl
    m_RankingD_strD := ⟨a_RankingD_strD, i_RankingD_strD, k_RankingD_strD⟩
    a_RankingD_reprD := f_RankingD_reprD
    fd_RankingD_reprD := _
    F_RankingD_reprD := fun_mk (st := st_RankingD_reprD) l_RankingD_reprD c_RankingD_reprD k_RankingD_reprD
    b_RankingD_reprD := (fun_mk (st := st_RankingD_reprD) l_RankingD_reprD c_RankingD_reprD k_RankingD_reprD).binds (ps := ["self"]) fun _ _ _ _ _ _ us hl => match us, hl with | [_], _ => rfl
    m_RankingD_reprD := ⟨a_RankingD_reprD, i_RankingD_reprD, k_RankingD_reprD⟩
    a_RankingD_eqD := f_RankingD_eqD
    fd_RankingD_eqD := _
    F_RankingD_eqD := fun_mk (st := st_RankingD_eqD) l_RankingD_eqD c_RankingD_eqD k_RankingD_eqD
    b_RankingD_eqD := (fun_mk (st := st_RankingD_eqD) l_RankingD_eqD c_RankingD_eqD k_RankingD_eqD).binds (ps := ["self", "other"]) fun _ _ _ _ _ _ us hl => match us, hl with | [_, _], _ => rfl
    m_RankingD_eqD := ⟨a_RankingD_eqD, i_RankingD_eqD, k_RankingD_eqD⟩
    a_l_purse := f_l_purse
    fd_l_purse := _
    F_l_purse := fun_mk (st := st_l_purse) l_l_purse c_l_purse k_l_purse
    b_l_purse := (fun_mk (st := st_l_purse) l_l_purse c_l_purse k_l_purse).binds (ps := ["_law_script", "_law_spot"]) fun _ _ _ _ _ _ us hl => match us, hl with | [_, _], _ => rfl
    g_l_purse := PySem.W.mg_of X G a_l_purse
    a_l_draw := f_l_draw
    fd_l_draw := _
    F_l_draw := fun_mk (st := st_l_draw) l_l_draw c_l_draw k_l_draw
    b_l_draw := (fun_mk (st := st_l_draw) l_l_draw c_l_draw k_l_draw).binds (ps := ["_law_purse_here", "_law_many"]) fun _ _ _ _ _ _ us hl => match us, hl with | [_, _], _ => rfl
    g_l_draw := PySem.W.mg_of X G a_l_draw
    a_l_things := f_l_things
    fd_l_things := _
    F_l_things := fun_mk (st := st_l_things) l_l_things c_l_things k_l_things
    b_l_things := (fun_mk (st := st_l_things) l_l_things c_l_things k_l_things).binds (ps := ["_law_purse_here", "_law_many"]) fun _ _ _ _ _ _ us hl => match us, hl with | [_, _], _ => rfl
    g_l_things := PySem.W.mg_of X G a_l_things
    a_l_order := f_l_order
    fd_l_order := _
    F_l_order := fun_mk (st := st_l_order) l_l_order c_l_order k_l_order
    b_l_order := (fun_mk (st := st_l_order) l_l_order c_l_order k_l_order).binds (ps := ["_law_purse_here", "_law_things_here"]) fun _ _ _ _ _ _ us hl => match us, hl with | [_, _], _ => rfl
    g_l_order := PySem.W.mg_of X G a_l_order
    a_l_near := f_l_near
    fd_l_near := _
    F_l_near := fun_mk (st := st_l_near) l_l_near c_l_near k_l_near
    b_l_near := (fun_mk (st := st_l_near) l_l_near c_l_near k_l_near).binds (ps := ["_law_purse_here", "_law_rank"]) fun _ _ _ _ _ _ us hl => match us, hl with | [_, _], _ => rfl
    g_l_near := PySem.W.mg_of X G a_l_near
    a_l_made := f_l_made
    fd_l_made := _
    F_l_made := fun_mk (st := st_l_made) l_l_made c_l_made k_l_made
    b_l_made := (fun_mk (st := st_l_made) l_l_made c_l_made k_l_made).binds (ps := ["_law_purse_here", "_law_rank"]) fun _ _ _ _ _ _ us hl => match us, hl with | [_, _], _ => rfl
    g_l_made := PySem.W.mg_of X G a_l_made
    a_l_shown := f_l_shown
    fd_l_shown := _
    F_l_shown := fun_mk (st := st_l_shown) l_l_shown c_l_shown k_l_shown
    b_l_shown := (fun_mk (st := st_l_shown) l_l_shown c_l_shown k_l_shown).binds (ps := ["_law_ranking", "_law_rank"]) fun _ _ _ _ _ _ us hl => match us, hl with | [_, _], _ => rfl
    g_l_shown := PySem.W.mg_of X G a_l_shown
    a_l_right := f_l_right
    fd_l_right := _
    F_l_right := fun_mk (st := st_l_right) l_l_right c_l_right k_l_right
    b_l_right := (fun_mk (st := st_l_right) l_l_right c_l_right k_l_right).binds (ps := ["_law_purse_here"]) fun _ _ _ _ _ _ us hl => match us, hl with | [_], _ => rfl
    g_l_right := PySem.W.mg_of X G a_l_right
    a_law := fa
    fd_law := _
    F_law := fun_mk (st := st_law) l_law c_law k_law
    b_law := (fun_mk (st := st_law) l_law c_law k_law).binds (ps := ["_law_script"]) fun _ _ _ _ _ _ us hl => match us, hl with | [_], _ => rfl
    g_law := PySem.W.mg_of X G a_law
    g_MOST_THINGS := ⟨_, PySem.W.mg_of X G v_MOST_THINGS⟩
    g_LETTERS := ⟨_, PySem.W.mg_of X G v_LETTERS⟩
    g_DIGITS := ⟨_, PySem.W.mg_of X G v_DIGITS⟩
    g_LONGEST_NAME := ⟨_, PySem.W.mg_of X G v_LONGEST_NAME⟩
    n_len := PySem.W.mg_none_of X G z_len
    n_isinstance := PySem.W.mg_none_of X G z_isinstance
    n_all := PySem.W.mg_none_of X G z_all
    n_enumerate := PySem.W.mg_none_of X G z_enumerate
    n_tuple := PySem.W.mg_none_of X G z_tuple
    n_sorted := PySem.W.mg_none_of X G z_sorted
    n_abs := PySem.W.mg_none_of X G z_abs
    n_int := PySem.W.mg_none_of X G z_int
    n_divmod := PySem.W.mg_none_of X G z_divmod
    n_range := PySem.W.mg_none_of X G z_range
    n_list := PySem.W.mg_none_of X G z_list
    n_max := PySem.W.mg_none_of X G z_max
    n_min := PySem.W.mg_none_of X G z_min
    n_str := PySem.W.mg_none_of X G z_str
    n_bool := PySem.W.mg_none_of X G z_bool
    n_repr := PySem.W.mg_none_of X G z_repr
    n_zip := PySem.W.mg_none_of X G z_zip }, rfl⟩
end MH
namespace MH
open PySem PySem.Spec PyProof.Rows L2
/-! ### frames -/
theorem _root_.L2.Same.sqt {K : PySem.W.Frag} {H H' : Hp} {a : Addr} {xs : List V} (e : Same H H') (h : SqT K H a xs) : SqT K H' a xs := by
  rcases h with (h | ⟨o, h⟩) | h
  · exact .inl (.inl (e _ _ h))
  · exact .inl (.inr ⟨o, e _ _ h⟩)
  · exact .inr h
theorem _root_.L2.Same.new {H : Hp} {p : Addr} {o : HO} (h : H p = none) : Same H (upd H p o) := fun b x e => by
  rw [upd_ne (ne_of_none e h)]
  exact e
theorem _root_.L2.Same.new' {H H1 : Hp} {p : Addr} {o : HO} (s : Same H H1) (h : H1 p = none) : Same H (upd H1 p o) := s.trans (Same.new h)
/-- all as it was but p -/
def SameB (p : Addr) (H H' : Hp) : Prop := ∀ b o, b ≠ p → H b = some o → H' b = some o
theorem SameB.of {p : Addr} {H H' : Hp} (s : Same H H') : SameB p H H' := fun b o _ e => s b o e
theorem SameB.refl (p : Addr) (H : Hp) : SameB p H H := fun _ _ _ e => e
theorem SameB.trans {p : Addr} {H H1 H2 : Hp} (a : SameB p H H1) (b : SameB p H1 H2) : SameB p H H2 := fun c o n e => b c o n (a c o n e)
theorem SameB.put {p : Addr} {H H1 : Hp} {o : HO} (s : SameB p H H1) : SameB p H (upd H1 p o) := fun b x n e => by
  rw [upd_ne n]
  exact s b x n e
theorem SameB.new {p q : Addr} {H H1 : Hp} {o : HO} (s : SameB p H H1) (h : H1 q = none) : SameB p H (upd H1 q o) := s.trans (SameB.of (Same.new h))
/-- a tuple stands where only a list changed -/
theorem SameB.sqt {K : PySem.W.Frag} {p a : Addr} {H H' : Hp} {xs ys : List V} (s : SameB p H H') (hp : H p = some (.lst ys)) (h : SqT K H a xs) : SqT K H' a xs := by
  rcases h with (h | ⟨o, h⟩) | h
  · exact .inl (.inl (s _ _ (ne_of h hp (by intro q; cases q)) h))
  · exact .inl (.inr ⟨o, s _ _ (ne_of h hp (by intro q; cases q)) h⟩)
  · exact .inr h
theorem tup_of {K : PySem.W.Frag} {H : Hp} {a : Addr} {xs : List V} (h : H a = some (.tup xs)) : SqT K H a xs := .inl (.inl h)
theorem frz_of {K : PySem.W.Frag} {H : Hp} {a : Addr} {o : Obj} {xs : List V} (h : H a = some (.frz o (.tup xs))) : SqT K H a xs := .inl (.inr ⟨o, h⟩)
theorem lst_of {K : PySem.W.Frag} {H : Hp} {a : Addr} {xs : List V} (h : H a = some (.lst xs)) : SqL K H a xs := .inl (.inl h)
theorem le_line {n : Nat} (h : n ≤ 100000) : n ≤ sizeLine := Nat.le_trans h (by decide)
theorem lt_line {n : Nat} (h : n < 100000) : n < sizeLine := Nat.lt_of_lt_of_le h (by decide)

/-! ### the purse -/
def Pu (H : Hp) (p : Addr) : Prop := ∃ x y : Int, H p = some (.lst [.int x, .int y]) ∧ 0 ≤ x ∧ 0 ≤ y ∧ y < 2147483647
theorem Pu.sqt {K : PySem.W.Frag} {H H' : Hp} {p a : Addr} {xs : List V} (u : Pu H p) (s : SameB p H H') (h : SqT K H a xs) : SqT K H' a xs := by
  obtain ⟨x, y, hp, _⟩ := u
  exact s.sqt hp h
theorem Pu.same {H H' : Hp} {p : Addr} (u : Pu H p) (s : Same H H') : Pu H' p := by
  obtain ⟨x, y, hp, h⟩ := u
  exact ⟨x, y, s _ _ hp, h⟩
theorem Pu.put {H : Hp} {p q : Addr} {o u : HO} (a : Pu H p) (hq : H q = some u) (d : ∀ x y : Int, u ≠ .lst [.int x, .int y]) : Pu (upd H q o) p := by
  obtain ⟨x, y, hp, h⟩ := a
  have n : p ≠ q := fun e => by
    subst e
    rw [hp] at hq
    exact d x y (Option.some.inj hq).symm
  exact ⟨x, y, by rw [upd_ne n]; exact hp, h⟩
def spDraw : Sp := fun vs H Q _ => ∃ (p : Addr) (m : Int), vs = [.ref p, .int m] ∧ Pu H p ∧ 0 < m ∧ m < 1000000 ∧ ∀ d H', 0 ≤ d → d < m → SameB p H H' → Pu H' p → Q (.int d) H'

section
variable {P : Program} {w : World} {K : PySem.W.Frag} {mg : Str → Option Value} {base : Heap}
theorem ok_l_draw (T : Tx K mg) : FnOk P w K mg base CX0 6 T.a_l_draw T.fd_l_draw ["_law_purse_here", "_law_many"] spDraw := by
  refine T.F_l_draw.ok sc_l_draw (fun vs H Q E h => ?_) (fun cdv A outer s H vs Q E hr h => ?_)
  · obtain ⟨p, m, rfl, _⟩ := h
    rfl
  · obtain ⟨p, m, rfl, ⟨x, y, hp, hx, hy, hy2⟩, hm, hm2, k⟩ := h
    refine ⟨_, (pss_cons (ps_if (pt_cmpR op_gt (pe_ix ix_list (pv 0) pe_int (fun _ _ => rfl)) pe_int (nomark _))
        (pss_cons (ps_asg (pe_callB call_divmod (by rfl) T.n_divmod (by decide +kernel) (pa_cons (pe_ix ix_list (pv 0) pe_int (fun _ _ => rfl)) (pa_cons (pv 1) pa_nil))) (pg_tup rfl (pgs_cons (pg_sub (pv 0) pe_int set_list) (pgs_cons (pg_name (i := 2) sc_l_draw.nd rfl (Or.inl rfl)) pgs_nil))))
      (pss_one (ps_ret (pv 2))))
        pss_nil)
      (pss_cons (ps_asg (pe_op op_mod (pe_callTy call_int1 (by rfl) T.n_int (by decide +kernel) (pa_cons (pe_op op_add (pe_op op_mul (pe_ix ix_list (pv 0) pe_int (fun _ _ => rfl)) pe_int) pe_int) pa_nil)) pe_int) (pg_sub (pv 0) pe_int set_list))
      (pss_one (ps_ret (pe_op op_mod (pe_callTy call_int1 (by rfl) T.n_int (by decide +kernel) (pa_cons (pe_op op_fdiv (pe_ix ix_list (pv 0) pe_int (fun _ _ => rfl)) pe_int) pa_nil)) (pv 1)))))), ?_⟩
    refine ⟨_, rfl, p, _, 0, _, rfl, rfl, lst_of hp, rfl, _, _, rfl, rfl, _, rfl, ?_⟩
    refine ite2 (fun c => ?_) (fun c => ?_)
    · have c : 0 < x := of_decide_eq_true c
      refine ⟨_, rfl, p, _, 0, _, rfl, rfl, lst_of hp, rfl, _, rfl, _, _, rfl, ⟨hm, by omega⟩, fun t ht => ?_⟩
      have npt : p ≠ t := ne_of_none hp ht
      refine ⟨t, _, rfl, tup_of upd_same, rfl, _, _, rfl, _, rfl, p, _, 0, 0, rfl, rfl, (by rw [upd_ne npt]; exact hp), rfl, _, _, rfl, rfl, ?_⟩
      refine ⟨_, rfl, ?_⟩
      refine k _ _ (Int.emod_nonneg _ (by omega)) (Int.emod_lt_of_pos _ hm) ((SameB.refl p H).new ht).put ⟨x / m, y, ?_, Int.ediv_nonneg hx (by omega), hy, hy2⟩
      rw [upd_same]
      rfl
    · refine ⟨_, rfl, p, _, 1, _, rfl, rfl, lst_of hp, rfl, _, _, rfl, rfl, .inl ⟨by omega, by omega⟩, _, _, rfl, rfl, .inl ⟨_, rfl, _, _, rfl, rfl, (by show (0 : Int) < 2147483647; decide), ?_⟩⟩
      refine ⟨_, rfl, p, _, 1, 1, rfl, rfl, hp, rfl, ?_⟩
      refine ⟨_, rfl, p, _, 1, _, rfl, rfl, lst_of upd_same, rfl, _, _, rfl, rfl, ⟨by decide, by decide⟩, .inl ⟨_, rfl, _, rfl, _, _, rfl, rfl, hm, ?_⟩⟩
      refine k _ _ (Int.emod_nonneg _ (by omega)) (Int.emod_lt_of_pos _ hm) (SameB.refl p H).put ⟨x, _, upd_same, hx, Int.emod_nonneg _ (by decide), Int.emod_lt_of_pos _ (by decide)⟩
end
end MH
namespace MH
open PySem PySem.Spec PyProof.Rows L2
theorem cutV_mem {xs : List V} {lo hi : Option Int} {x : V} (h : x ∈ cutV xs lo hi) : x ∈ xs := List.mem_of_mem_drop (List.mem_of_mem_take h)
def spPurse (K : PySem.W.Frag) : Sp := fun vs H Q _ => ∃ (a : Addr) (ns : List Int) (i : Nat), vs = [.ref a, .int i] ∧ SqL K H a (ns.map V.int) ∧ ns.length ≤ 63 ∧ i < 1000 ∧ ∀ H' p, Same H H' → H p = none → Pu H' p → Q (.ref p) H'
section
variable {P : Program} {w : World} {K : PySem.W.Frag} {mg : Str → Option Value} {base : Heap}
theorem ok_l_purse (T : Tx K mg) : FnOk P w K mg base CX0 6 T.a_l_purse T.fd_l_purse ["_law_script", "_law_spot"] (spPurse K) := by
  refine T.F_l_purse.ok sc_l_purse (fun vs H Q E h => ?_) (fun cdv A outer s H vs Q E hr h => ?_)
  · obtain ⟨a, ns, i, rfl, _⟩ := h
    rfl
  · obtain ⟨a, ns, i, rfl, hS, hlen, hi, k⟩ := h
    refine ⟨_, (pss_cons (ps_set (i := 2) sc_l_purse.nd rfl (Or.inl rfl) (pe_ifExp (pt_cmpR op_lt (pv 1) (pe_callB call_len_seq (by rfl) T.n_len (by decide +kernel) (pa_cons (pv 0) pa_nil)) (nomark _)) (pe_ix ix_list (pv 0) (pv 1) (fun _ _ => rfl)) (pe_op op_mul pe_int (pe_op op_add (pv 1) pe_int))))
      (pss_cons (ps_set (i := 3) sc_l_purse.nd rfl (Or.inl rfl) (pe_op op_add pe_int (pv 1)))
      (pss_cons (ps_for PassesOwn.never rfl (pi_list (pe_op op_cat (pe_slice sl_list (pv 0) po_none (po_some pe_int)) (pe_lst (pa_cons (pv 2) pa_nil)))) (pg_name (i := 4) sc_l_purse.nd rfl (Or.inl rfl))
        (pss_one (ps_set (i := 3) sc_l_purse.nd rfl (Or.inl rfl) (pe_op op_mod (pe_callTy call_int1 (by rfl) T.n_int (by decide +kernel) (pa_cons (pe_op op_add (pe_op op_add (pe_op op_mul (pv 3) pe_int) (pe_op op_mod (pe_callTy call_int1 (by rfl) T.n_int (by decide +kernel) (pa_cons (pv 4) pa_nil)) pe_int)) pe_int) pa_nil)) pe_int))))
      (pss_one (ps_ret (pe_lst (pa_cons (pe_ifExp (pt_cmpR op_ge (pe_callB call_abs (by rfl) T.n_abs (by decide +kernel) (pa_cons (pv 2) pa_nil)) (pe_op op_pow pe_int pe_int) (nomark _)) (pe_callB call_abs (by rfl) T.n_abs (by decide +kernel) (pa_cons (pv 2) pa_nil)) pe_int) (pa_cons (pv 3) pa_nil)))))))), ?_⟩
    refine ⟨_, rfl, _, rfl, a, _, rfl, .inl hS, _, _, rfl, rfl, _, rfl, ?_⟩
    refine ite2 (fun c => ?a1) (fun c => ?a2)
    case' a1 =>
      have c : (i : Int) < ((ns.map V.int).length : Nat) := of_decide_eq_true c
      have c2 : i < ns.length := by
        rw [List.length_map] at c
        omega
      have g : (ns.map V.int)[i]? = some (.int ns[i]) := by
        rw [List.getElem?_map, List.getElem?_eq_getElem c2]
        rfl
      refine ⟨_, rfl, _, rfl, a, _, _, _, rfl, rfl, hS, atI_nat g, ?_⟩
      generalize ns[i] = z
    case' a2 =>
      refine ⟨_, rfl, _, _, rfl, rfl, _, _, rfl, rfl, .inl ⟨by decide, by decide⟩, ?_⟩
      show gName 2 (V.int ((7919 : Int) * ((i : Int) + 5))) _ _ _
      generalize (7919 : Int) * ((i : Int) + 5) = z
    all_goals
      refine ⟨_, rfl, _, _, rfl, rfl, ?_⟩
      refine ⟨_, rfl, 5, rfl, a, _, rfl, hS, fun p np => ?_⟩
      refine ⟨_, rfl, (by show 1 ≤ sizeLine; decide), fun q nq => ?_⟩
      have npq : p ≠ q := fun e => by
        rw [e, upd_same] at nq
        cases nq
      refine ⟨p, q, _, _, rfl, rfl, (by rw [upd_ne npq]; exact upd_same), upd_same, le_line ?_, fun r nr => ?_⟩
      · have q1 := cutV_length (ns.map V.int) none (some 5)
        rw [List.length_map] at q1
        show (cutV (ns.map V.int) none (some 5)).length + 1 ≤ 100000
        omega
      have s1 := ((Same.new np).new' nq).new' nr (o := .lst (cutV (ns.map V.int) none (some 5) ++ [V.int z]))
      refine ⟨r, rfl, ⟨_, lst_of upd_same⟩, for_list (K := K) (a := r) (xs := cutV (ns.map V.int) none (some 5) ++ [V.int z]) (fun j σ H' => ∃ (y : Int) (v : Option V), σ = [some (.ref a), some (.int i), some (.int z), some (.int y), v] ∧ 0 ≤ y ∧ y < 2147483647 ∧ Same H H' ∧ H' r = some (.lst (cutV (ns.map V.int) none (some 5) ++ [V.int z])))
        ⟨(211 : Int) + i, none, rfl, by omega, by omega, s1, upd_same⟩ (fun j σ H' _ ⟨_, _, _, _, _, _, hL⟩ => lst_of hL) ?_ ?_⟩
      · rintro j x σ H' hx ⟨y, v, rfl, h0, h1, s2, hL⟩
        obtain ⟨n, rfl⟩ : ∃ n, x = V.int n := by
          rcases List.mem_append.mp (List.mem_of_getElem? hx) with m | m
          · obtain ⟨n, _, e⟩ := List.mem_map.mp (cutV_mem m)
            exact ⟨n, e.symm⟩
          · exact ⟨z, List.mem_singleton.mp m⟩
        refine ⟨_, rfl, _, _, rfl, rfl, .inl ⟨by omega, by omega⟩, _, rfl, .inl ⟨_, rfl, _, _, rfl, rfl, (by show (0 : Int) < 2147483647; decide), _, _, rfl, rfl, _, _, rfl, rfl, .inl ⟨_, rfl, _, _, rfl, rfl, (by show (0 : Int) < 2147483647; decide), ?_⟩⟩⟩
        exact ⟨_, _, rfl, Int.emod_nonneg _ (by decide), Int.emod_lt_of_pos _ (by decide), s2, hL⟩
      · rintro σ H' ⟨y, v, rfl, h0, h1, s2, hL⟩
        refine ⟨_, rfl, _, rfl, _, _, rfl, rfl, ⟨by decide, by decide, by decide⟩, _, _, rfl, rfl, _, rfl, ?_⟩
        refine ite2 (fun c => ?_) (fun c => ?_)
        · refine ⟨_, rfl, _, rfl, _, rfl, (by show 2 ≤ sizeLine; decide), fun t nt => ?_⟩
          refine k _ _ (s2.new' nt) (s2.free nt) ⟨_, _, upd_same, ?_, h0, h1⟩
          split <;> omega
        · refine ⟨_, rfl, (by show 2 ≤ sizeLine; decide), fun t nt => ?_⟩
          exact k _ _ (s2.new' nt) (s2.free nt) ⟨_, _, upd_same, by omega, h0, h1⟩
end
end MH
namespace MH
open PySem PySem.Spec PyProof.Rows L2
theorem seqIndex_in {d : Int} {n : Nat} (h0 : 0 ≤ d) (h1 : d < n) : seqIndex? d n = some d.toNat := by
  unfold seqIndex?
  simp only
  first
    | (rw [if_pos h0]; rw [if_pos (by omega)])
    | (split <;> simp_all <;> omega)
theorem perm_pop : ∀ {l : List Str} {k : Nat} {z : Str}, l[k]? = some z → (z :: l.eraseIdx k).Perm l
  | [], k, z, h => by simp at h
  | a :: l, 0, z, h => by
    obtain rfl : a = z := Option.some.inj h
    exact List.Perm.refl _
  | a :: l, k + 1, z, h => by
    have ih := perm_pop (l := l) (k := k) (z := z) h
    exact (List.Perm.swap a z _).trans (ih.cons a)
theorem map_erase {α β : Type} (f : α → β) : ∀ (l : List α) (k : Nat), (l.eraseIdx k).map f = (l.map f).eraseIdx k
  | [], k => rfl
  | a :: l, 0 => rfl
  | a :: l, k + 1 => congrArg (f a :: ·) (map_erase f l k)
def spThings (K : PySem.W.Frag) : Sp := fun vs H Q _ => ∃ (p : Addr) (n : Int), vs = [.ref p, .int n] ∧ Pu H p ∧ 0 ≤ n ∧ n ≤ 13 ∧
  ∀ (ss : List Str) (a : Addr) (H' : Hp), ss.Nodup → sortedS ss = true → (∀ z ∈ ss, z ∈ pool) → ss.length = n.toNat → SameB p H H' → Pu H' p → SqT K H' a (ss.map V.str) → Q (.ref a) H'
section
variable {P : Program} {w : World} {K : PySem.W.Frag} {mg : Str → Option Value} {base : Heap}
theorem ok_l_things (T : Tx K mg) : FnOk P w K mg base CX0 7 T.a_l_things T.fd_l_things ["_law_purse_here", "_law_many"] (spThings K) := by
  refine T.F_l_things.ok sc_l_things (fun vs H Q E h => ?_) (fun cdv A outer s H vs Q E hr h => ?_)
  · obtain ⟨p, n, rfl, _⟩ := h
    rfl
  · obtain ⟨p, n, rfl, pu, n0, n13, k⟩ := h
    refine ⟨_, (pss_cons (ps_set (i := 2) sc_l_things.nd rfl (Or.inl rfl) (pe_lst (pa_cons pe_str (pa_cons pe_str (pa_cons pe_str (pa_cons pe_str (pa_cons pe_str (pa_cons pe_str (pa_cons pe_str (pa_cons pe_str (pa_cons pe_str (pa_cons pe_str (pa_cons pe_str (pa_cons pe_str (pa_cons pe_str pa_nil)))))))))))))))
      (pss_cons (ps_set (i := 3) sc_l_things.nd rfl (Or.inl rfl) (pe_lst pa_nil))
      (pss_cons (ps_for PassesOwn.never rfl (pi_range1 (by rfl) T.n_range (pa_cons (pv 1) pa_nil)) (pg_name (i := 4) sc_l_things.nd rfl (Or.inl rfl))
        (pss_one (ps_expr (pe_bm PySem.F.plainAttrs_list PySem.F.slot_list_append PySem.F.type_list_append mt_append (pv 3) (pa_cons (pe_bm PySem.F.plainAttrs_list PySem.F.slot_list_pop PySem.F.type_list_pop mt_popAt (pv 2) (pa_cons (pe_call (ok_l_draw T) (hr.mono (by decide)) rfl T.g_l_draw T.F_l_draw.kp T.b_l_draw .nil pass0 (pa_cons (pv 0) (pa_cons (pe_callB call_len_seq (by rfl) T.n_len (by decide +kernel) (pa_cons (pv 2) pa_nil)) pa_nil))) pa_nil)) pa_nil)))))
      (pss_one (ps_ret (pe_callTy call_tupF (by rfl) T.n_tuple (by decide +kernel) (pa_cons (pe_callB cr_sortedS (by rfl) T.n_sorted (by decide +kernel) (pa_cons (pv 3) pa_nil)) pa_nil))))))), ?_⟩
    obtain ⟨x0, y0, hp0, _⟩ := id pu
    refine ⟨(by show 13 ≤ sizeLine; decide), fun l nl => ?_⟩
    refine ⟨Nat.zero_le _, fun fo nfo => ?_⟩
    have npl : p ≠ l := ne_of_none hp0 nl
    have nlf : l ≠ fo := fun e => by
      rw [e, upd_same] at nfo
      cases nfo
    have nfo' : H fo = none := by
      rw [upd_ne nlf.symm] at nfo
      exact nfo
    have npf : p ≠ fo := ne_of_none hp0 nfo'
    have s0 : Same H (upd (upd H l (.lst (pool.map V.str))) fo (.lst [])) := (Same.new nl).new' nfo
    refine ⟨_, rfl, n, rfl, by omega, by omega, for_range (lo := 0) (n := n.toNat) (fun i σ H' => ∃ (rest found : List Str) (v : Option V), σ = [some (.ref p), some (.int n), some (.ref l), some (.ref fo), v] ∧
      H' l = some (.lst (rest.map V.str)) ∧ H' fo = some (.lst (found.map V.str)) ∧ (rest ++ found).Perm pool ∧ found.length = i ∧ SameB p H H' ∧ Pu H' p)
      ⟨pool, [], none, rfl, (by rw [upd_ne nlf]; exact upd_same), upd_same, List.Perm.refl _, rfl, .of s0, pu.same s0⟩ ?_ ?_⟩
    · rintro i σ H' hi ⟨rest, found, v, rfl, hl, hf, hpm, hlen, sb, pu1⟩
      have hsum : rest.length + found.length = 13 := by
        have := hpm.length_eq
        rw [List.length_append] at this
        exact this
      refine ⟨_, rfl, .inl ⟨rfl, _, lst_of hf⟩, _, rfl, .inl ⟨rfl, _, lst_of hl⟩, _, rfl, _, rfl, l, _, rfl, .inl (lst_of hl), p, _, rfl, pu1, ?_, ?_, fun d H2 d0 d1 sb2 pu2 => ?_⟩
      · rw [List.length_map]
        omega
      · rw [List.length_map]
        omega
      · rw [List.length_map] at d1
        have dk : d.toNat < rest.length := by omega
        have hl2 := sb2 _ _ npl.symm hl
        have hf2 := sb2 _ _ npf.symm hf
        have g : rest[d.toNat]? = some rest[d.toNat] := List.getElem?_eq_getElem dk
        refine ⟨l, _, d, d.toNat, V.str rest[d.toNat], rfl, rfl, hl2, by omega, by omega, seqIndex_in d0 (by rw [List.length_map]; exact d1), ?_, ?_⟩
        · rw [List.getElem?_map, g]
          rfl
        · refine ⟨fo, _, _, rfl, rfl, (by rw [upd_ne nlf.symm]; exact hf2), lt_line (by rw [List.length_map]; omega), ?_⟩
          refine ⟨rest.eraseIdx d.toNat, found ++ [rest[d.toNat]], _, rfl, ?_, ?_, ?_, ?_, ?_, ?_⟩
          · rw [upd_ne nlf, upd_same, map_erase]
          · rw [upd_same, List.map_append]
            rfl
          · refine List.Perm.trans ?_ hpm
            rw [← List.append_assoc]
            exact (List.perm_append_comm (l₂ := [rest[d.toNat]])).trans ((perm_pop g).append_right found)
          · rw [List.length_append, hlen]
            rfl
          · intro b o nb e
            have nbl : b ≠ l := ne_of_none e nl
            have nbf : b ≠ fo := ne_of_none e nfo'
            rw [upd_ne nbf, upd_ne nbl]
            exact sb2 _ _ nb (sb _ _ nb e)
          · obtain ⟨x2, y2, hp2, hh⟩ := pu2
            exact ⟨x2, y2, by rw [upd_ne npf, upd_ne npl]; exact hp2, hh⟩
    · rintro σ H' ⟨rest, found, v, rfl, hl, hf, hpm, hlen, sb, pu1⟩
      have nd : found.Nodup := by
        have : (rest ++ found).Nodup := hpm.nodup_iff.mpr pool_nd
        exact (List.nodup_append.mp this).2.1
      refine ⟨_, rfl, fo, found, rfl, lst_of hf, by omega, fun ys q pm so nq => ⟨q, _, rfl, .inl ⟨lst_of upd_same, fun t ot nt od => ?_⟩⟩⟩
      refine k ys t _ (pm.nodup_iff.mpr nd) so (fun z hz => hpm.subset (List.mem_append_right _ (pm.subset hz))) (by rw [pm.length_eq, hlen]) ((sb.new nq).new nt) ((pu1.same (Same.new nq)).same (Same.new nt)) (frz_of upd_same)
end
end MH
namespace MH
open PySem PySem.Spec PyProof.Rows L2
def spOrder (K : PySem.W.Frag) : Sp := fun vs H Q _ => ∃ (p t : Addr) (ss : List Str), vs = [.ref p, .ref t] ∧ Pu H p ∧ SqT K H t (ss.map V.str) ∧ ss.length ≤ 1000 ∧
  ∀ (row : List Str) (a : Addr) (H' : Hp), row.Perm ss → SameB p H H' → Pu H' p → TupO H' a (row.map V.str) → Q (.ref a) H'
section
variable {P : Program} {w : World} {K : PySem.W.Frag} {mg : Str → Option Value} {base : Heap}
theorem ok_l_order (T : Tx K mg) : FnOk P w K mg base CX0 7 T.a_l_order T.fd_l_order ["_law_purse_here", "_law_things_here"] (spOrder K) := by
  refine T.F_l_order.ok sc_l_order (fun vs H Q E h => ?_) (fun cdv A outer s H vs Q E hr h => ?_)
  · obtain ⟨p, n, ss, rfl, _⟩ := h
    rfl
  · obtain ⟨p, t, ss, rfl, pu, hT, hz, k⟩ := h
    refine ⟨_, (pss_cons (ps_par (i := 2) (j := 3) rfl sc_l_order.nd rfl rfl (by decide) rfl rfl (pa_cons (pe_callTy call_list_of (by rfl) T.n_list (by decide +kernel) (pa_cons (pv 1) pa_nil)) (pa_cons (pe_lst pa_nil) pa_nil)) (by rfl))
      (pss_cons (ps_for PassesOwn.never rfl (pi_range1 (by rfl) T.n_range (pa_cons (pe_callB call_len_seq (by rfl) T.n_len (by decide +kernel) (pa_cons (pv 1) pa_nil)) pa_nil)) (pg_name (i := 4) sc_l_order.nd rfl (Or.inl rfl))
        (pss_one (ps_expr (pe_bm PySem.F.plainAttrs_list PySem.F.slot_list_append PySem.F.type_list_append mt_append (pv 3) (pa_cons (pe_bm PySem.F.plainAttrs_list PySem.F.slot_list_pop PySem.F.type_list_pop mt_popAt (pv 2) (pa_cons (pe_call (ok_l_draw T) (hr.mono (by decide)) rfl T.g_l_draw T.F_l_draw.kp T.b_l_draw .nil pass0 (pa_cons (pv 0) (pa_cons (pe_callB call_len_seq (by rfl) T.n_len (by decide +kernel) (pa_cons (pv 2) pa_nil)) pa_nil))) pa_nil)) pa_nil)))))
      (pss_one (ps_ret (pe_callTy call_tupF (by rfl) T.n_tuple (by decide +kernel) (pa_cons (pv 3) pa_nil)))))), ?_⟩
    obtain ⟨x0, y0, hp0, _⟩ := id pu
    refine ⟨_, rfl, t, _, rfl, .inr hT, fun l nl => ?_⟩
    refine ⟨Nat.zero_le _, fun fo nfo => ⟨_, _, rfl, ?_⟩⟩
    have npl : p ≠ l := ne_of_none hp0 nl
    have nlf : l ≠ fo := fun e => by
      rw [e, upd_same] at nfo
      cases nfo
    have nfo' : H fo = none := by
      rw [upd_ne nlf.symm] at nfo
      exact nfo
    have npf : p ≠ fo := ne_of_none hp0 nfo'
    have s0 : Same H (upd (upd H l (.lst (ss.map V.str))) fo (.lst [])) := (Same.new nl).new' nfo
    refine ⟨_, rfl, t, _, rfl, .inr (s0.sqt hT), _, rfl, by omega, by rw [List.length_map]; omega, for_range (lo := 0) (n := ((((ss.map V.str).length : Nat) : Int)).toNat) (fun i σ H' => ∃ (rest found : List Str) (v : Option V), σ = [some (.ref p), some (.ref t), some (.ref l), some (.ref fo), v] ∧
      H' l = some (.lst (rest.map V.str)) ∧ H' fo = some (.lst (found.map V.str)) ∧ (rest ++ found).Perm ss ∧ found.length = i ∧ SameB p H H' ∧ Pu H' p)
      ⟨ss, [], none, rfl, (by rw [upd_ne nlf]; exact upd_same), upd_same, (by rw [List.append_nil]), rfl, .of s0, pu.same s0⟩ ?_ ?_⟩
    · rintro i σ H' hi ⟨rest, found, v, rfl, hl, hf, hpm, hlen, sb, pu1⟩
      rw [List.length_map] at hi
      have hsum : rest.length + found.length = ss.length := by
        have := hpm.length_eq
        rw [List.length_append] at this
        exact this
      refine ⟨_, rfl, .inl ⟨rfl, _, lst_of hf⟩, _, rfl, .inl ⟨rfl, _, lst_of hl⟩, _, rfl, _, rfl, l, _, rfl, .inl (lst_of hl), p, _, rfl, pu1, ?_, ?_, fun d H2 d0 d1 sb2 pu2 => ?_⟩
      · rw [List.length_map]
        omega
      · rw [List.length_map]
        omega
      · rw [List.length_map] at d1
        have dk : d.toNat < rest.length := by omega
        have hl2 := sb2 _ _ npl.symm hl
        have hf2 := sb2 _ _ npf.symm hf
        have g : rest[d.toNat]? = some rest[d.toNat] := List.getElem?_eq_getElem dk
        refine ⟨l, _, d, d.toNat, V.str rest[d.toNat], rfl, rfl, hl2, by omega, by omega, seqIndex_in d0 (by rw [List.length_map]; exact d1), ?_, ?_⟩
        · rw [List.getElem?_map, g]
          rfl
        · refine ⟨fo, _, _, rfl, rfl, (by rw [upd_ne nlf.symm]; exact hf2), lt_line (by rw [List.length_map]; omega), ?_⟩
          refine ⟨rest.eraseIdx d.toNat, found ++ [rest[d.toNat]], _, rfl, ?_, ?_, ?_, ?_, ?_, ?_⟩
          · rw [upd_ne nlf, upd_same, map_erase]
          · rw [upd_same, List.map_append]
            rfl
          · refine List.Perm.trans ?_ hpm
            rw [← List.append_assoc]
            exact (List.perm_append_comm (l₂ := [rest[d.toNat]])).trans ((perm_pop g).append_right found)
          · rw [List.length_append, hlen]
            rfl
          · intro b o nb e
            have nbl : b ≠ l := ne_of_none e nl
            have nbf : b ≠ fo := ne_of_none e nfo'
            rw [upd_ne nbf, upd_ne nbl]
            exact sb2 _ _ nb (sb _ _ nb e)
          · obtain ⟨x2, y2, hp2, hh⟩ := pu2
            exact ⟨x2, y2, by rw [upd_ne npf, upd_ne npl]; exact hp2, hh⟩
    · rintro σ H' ⟨rest, found, v, rfl, hl, hf, hpm, hlen, sb, pu1⟩
      have e0 : rest = [] := by
        have := hpm.length_eq
        rw [List.length_append, hlen] at this
        simp at this
        exact this
      subst e0
      refine ⟨_, rfl, fo, _, rfl, .inl ⟨lst_of hf, fun t' ot nt od => ?_⟩⟩
      exact k found t' _ hpm (sb.new nt) (pu1.same (Same.new nt)) ⟨ot, upd_same, od⟩
end
end MH
namespace MH
open PySem PySem.Spec PyProof.Rows L2
theorem _root_.L2.SqT.ty {K : PySem.W.Frag} {H : Hp} {a : Addr} {xs : List V} (h : SqT K H a xs) : TyX K H (.ref a) (.type "tuple") := by
  rcases h with (h | ⟨o, h⟩) | ⟨o, its, n, h, c, _⟩
  · exact .base (.tup h)
  · exact .fTuple h
  · exact .kTuple h c
theorem ifT {c : Bool} {A B : Prop} (h : c = true) (a : A) : if c = true then A else B := by
  rw [if_pos h]
  exact a
theorem ifF {c : Bool} {A B : Prop} (h : c = false) (b : B) : if c = true then A else B := by
  rw [h, if_neg Bool.false_ne_true]
  exact b
theorem inV_strs (z : Str) : ∀ ss : List Str, inV (.str z) (ss.map V.str) = decide (z ∈ ss)
  | [] => rfl
  | y :: r => by
    have ih := inV_strs z r
    show (y == z || inV (.str z) (r.map V.str)) = decide (z ∈ y :: r)
    rw [ih]
    by_cases e : y = z
    · subst e
      simp
    · have e2 : ¬ z = y := fun q => e q.symm
      simp [e, e2]
theorem flat_strs (ss : List Str) : (ss.map V.str).all flatV = true := by
  rw [List.all_eq_true]
  intro v hv
  obtain ⟨z, _, rfl⟩ := List.mem_map.mp hv
  rfl
theorem cut_upto (xs : List V) (i : Nat) : cutV xs none (some (i : Int)) = xs.take i := by
  unfold cutV
  rw [HT.sIx_none, HT.sIx_nat, Nat.sub_zero, List.drop_zero]
  rcases Nat.le_total i xs.length with h | h
  · rw [Nat.min_eq_left h]
  · rw [Nat.min_eq_right h, List.take_of_length_le (Nat.le_refl _), List.take_of_length_le h]
theorem cut_from (xs : List V) (i : Nat) : cutV xs (some (i : Int)) none = xs.drop i := by
  unfold cutV
  rw [HT.sIx_none, HT.sIx_nat]
  rcases Nat.le_total i xs.length with h | h
  · rw [Nat.min_eq_left h, List.take_of_length_le]
    rw [List.length_drop]
    exact Nat.le_refl _
  · rw [Nat.min_eq_right h, Nat.sub_self, List.drop_of_length_le h]
    rfl
/-- a slice of a tuple: itself or a new one -/
theorem slA_of {K : PySem.W.Frag} {H : Hp} {a : Addr} {xs : List V} {lo hi : Option Int} {Q : VK} (h : SqT K H a xs) (k : ∀ p H', Same H H' → SqT K H' p (cutV xs lo hi) → Q (.ref p) H') : rSlA K (.ref a) lo hi H Q := by
  refine ⟨a, xs, rfl, h, fun ⟨e1, e2⟩ => ?_, fun _ p np => k p _ (Same.new np) (tup_of upd_same)⟩
  have e : cutV xs lo hi = xs := by
    unfold cutV
    rw [e1, e2, Nat.sub_zero, List.drop_zero, List.take_of_length_le (Nat.le_refl _)]
  exact k a H (Same.refl H) (by rw [e]; exact h)
theorem walk_enumT {K : PySem.W.Frag} {a : Addr} {xs : List V} : Walk (IteT K a) xs.length (fun H => SqT K H a xs) (YPair (fun i => some (.int (i : Nat))) (fun i => xs[i]?)) where
  goes := fun i H hi h => ⟨xs, xs[i], h, by simp [hi]⟩
  stops := fun H h => ⟨xs, h, Nat.le_refl _⟩
  yields := fun i H x H' hi h ⟨T, y, e, n, e2, f⟩ => ⟨T, _, y, e, n, e2, rfl, f _ h⟩

def spIsName : Sp := fun vs H Q _ => ∃ z : Str, vs = [.str z] ∧ z.length ≤ 100000 ∧ ∀ H', Same H H' → Q (.bl (nameOk z)) H'
def spFilled (K : PySem.W.Frag) : Sp := fun vs H Q _ => ∃ (a : Addr) (xs : List V), vs = [.ref a] ∧ SqT K H a xs ∧ Q (.bl (decide (0 < xs.length))) H
def spOneOf (K : PySem.W.Frag) : Sp := fun vs H Q _ => ∃ (v : V) (t : Addr) (ss : List Str), vs = [v, .ref t] ∧ SqT K H t (ss.map V.str) ∧ ((∃ z : Str, v = .str z ∧ Q (.bl (decide (z ∈ ss))) H) ∨ (∃ T : String, TyX K H v (.type T) ∧ kitB T "str" = some false ∧ Q (.bl false) H))
structure RowOk (row : List Str) : Prop where
  ne : row ≠ []
  le : row.length ≤ 10
  nd : row.Nodup
  ok : ∀ z ∈ row, nameOk z = true
def spFirstRow (K : PySem.W.Frag) : Sp := fun vs H Q _ => ∃ (t : Addr) (row : List Str), vs = [.ref t] ∧ SqT K H t (row.map V.str) ∧ RowOk row ∧ ∀ H', Same H H' → Q .non H'
def spFirstMenu (K : PySem.W.Frag) : Sp := fun vs H Q _ => ∃ (m t : Addr) (ms ss : List Str), vs = [.ref m, .ref t] ∧ SqT K H m (ms.map V.str) ∧ SqT K H t (ss.map V.str) ∧ ms.length ≤ 1000 ∧ (∀ z ∈ ms, z ∈ ss) ∧ ms.Pairwise ltS ∧ ∀ H', Same H H' → Q .non H'
section
variable {P : Program} {w : World} {K : PySem.W.Frag} {mg : Str → Option Value} {base : Heap}
theorem ok_is_filled_tuple (T : Tx K mg) : FnOk P w K mg base CX0 1 T.a_is_filled_tuple T.fd_is_filled_tuple ["value"] (spFilled K) := by
  refine T.F_is_filled_tuple.ok sc_is_filled_tuple (fun vs H Q E h => ?_) (fun cdv A outer s H vs Q E hr h => ?_)
  · obtain ⟨a, xs, rfl, _⟩ := h
    rfl
  · obtain ⟨a, xs, rfl, hT, k⟩ := h
    refine ⟨_, (pss_one (ps_ret (pe_and (pe_callB call_isi (by rfl) T.n_isinstance (by decide +kernel) (pa_cons (pv 0) (pa_cons (pe_bltn (v := .ty "tuple") (by rfl) T.n_tuple (by decide +kernel) rfl) pa_nil))) (pe_one (pe_cmpR op_gt (pe_callB call_len_seq (by rfl) T.n_len (by decide +kernel) (pa_cons (pv 0) pa_nil)) pe_int (nomark _)))))), ?_⟩
    refine ⟨_, rfl, _, _, _, _, true, rfl, .ty _, hT.ty, kit_ty (by decide +kernel), true, rfl, iteT ?_⟩
    refine ⟨_, rfl, a, _, rfl, .inr hT, _, _, rfl, rfl, ?_⟩
    have e : decide ((0 : Int) < (xs.length : Nat)) = decide (0 < xs.length) := by simp
    show Q (.bl (decide ((0 : Int) < (xs.length : Nat)))) H
    rw [e]
    exact k
theorem ok_is_one_of (T : Tx K mg) : FnOk P w K mg base CX0 1 T.a_is_one_of T.fd_is_one_of ["value", "things"] (spOneOf K) := by
  refine T.F_is_one_of.ok sc_is_one_of (fun vs H Q E h => ?_) (fun cdv A outer s H vs Q E hr h => ?_)
  · obtain ⟨z, t, ss, rfl, _⟩ := h
    rfl
  · obtain ⟨v, t, ss, rfl, hT, h⟩ := h
    refine ⟨_, (pss_one (ps_ret (pe_and (pe_callB call_isi (by rfl) T.n_isinstance (by decide +kernel) (pa_cons (pv 0) (pa_cons (pe_bltn (v := .ty "str") (by rfl) T.n_str (by decide +kernel) rfl) pa_nil))) (pe_one (pe_cmpR op_in_seq (pv 0) (pv 1) (by rfl)))))), ?_⟩
    rcases h with ⟨z, rfl, k⟩ | ⟨N, ty, kb, k⟩
    · refine ⟨_, rfl, _, _, _, _, true, rfl, .ty _, .base (.str z), kit_ty (by decide +kernel), true, rfl, iteT ?_⟩
      refine ⟨_, rfl, _, rfl, t, _, rfl, .inr hT, rfl, flat_strs ss, ?_⟩
      show Q (.bl (inV (.str z) (ss.map V.str))) H
      rw [inV_strs]
      exact k
    · exact ⟨_, rfl, _, _, _, _, false, rfl, .ty _, ty, kit_ty kb, false, rfl, iteF k⟩
theorem ok_is_name (T : Tx K mg) : FnOk P w K mg base CX0 1 T.a_is_name T.fd_is_name ["value"] spIsName := by
  refine T.F_is_name.ok sc_is_name (fun vs H Q E h => ?_) (fun cdv A outer s H vs Q E hr h => ?_)
  · obtain ⟨z, rfl, _⟩ := h
    rfl
  · obtain ⟨z, rfl, hz, k⟩ := h
    refine ⟨_, (pss_cons (ps_if (PW.pt (pw_or (pt_not (pt_val (pe_callB call_isi (by rfl) T.n_isinstance (by decide +kernel) (pa_cons (pv 0) (pa_cons (pe_bltn (v := .ty "str") (by rfl) T.n_str (by decide +kernel) rfl) pa_nil))))) (pw_or1 (pt_not (pt_chain op_le op_le pe_int (pe_callB call_len_str (by rfl) T.n_len (by decide +kernel) (pa_cons (pv 0) pa_nil)) (pe_glob (v := .int 8) rfl T.g_LONGEST_NAME.choose_spec ⟨_, rfl⟩))))))
        (pss_one (ps_ret pe_bl))
        pss_nil)
      (pss_one (ps_ret (pe_and (pe_cmpR op_in_sign (pe_ix ix_str (pv 0) pe_int (fun _ _ => rfl)) (pe_glob (v := .str "abcdefghijklmnopqrstuvwxyz") rfl T.g_LETTERS.choose_spec ⟨_, rfl⟩) (by rfl)) (pe_one (pe_callB (cr_all rfl) (by rfl) T.n_all (by decide +kernel) (pa_cons (pe_lc (own := [("sign", 1)]) (g := gName 1) (tt := tYes) rfl sc_is_name.nd (pi_str (pv 0)) (blkOk_by (own := [("sign", 1)]) (N := names_is_name) (sc := defScope st_is_name) (by decide +kernel)) (fun _ _ _ _ _ => pg_name (i := 1) sc_is_name.nd rfl (Or.inl rfl)) (fun _ _ _ _ _ => pts_nil) (fun _ _ _ _ _ => (pe_or (pe_cmpR op_in_sign (pv 1) (pe_glob (v := .str "abcdefghijklmnopqrstuvwxyz") rfl T.g_LETTERS.choose_spec ⟨_, rfl⟩) (by rfl)) (pe_one (pe_cmpR op_in_sign (pv 1) (pe_glob (v := .str "0123456789") rfl T.g_DIGITS.choose_spec ⟨_, rfl⟩) (by rfl)))))) pa_nil))))))), ?_⟩
    refine ⟨_, rfl, _, _, _, _, true, rfl, .ty _, .base (.str z), kit_ty (by decide +kernel), true, rfl, iteF ?_⟩
    refine ⟨_, rfl, z, rfl, le_line hz, _, _, rfl, rfl, _, rfl, ?_⟩
    by_cases h1 : 1 ≤ z.length
    · refine ifT (decide_eq_true (show (1 : Int) ≤ (z.length : Nat) by omega)) ?_
      refine ⟨_, _, rfl, rfl, _, rfl, ?_⟩
      by_cases h2 : z.length ≤ 8
      · refine ifF (by simp; omega) ?_
        have hne : z.cps.toList ≠ [] := fun e => by
          have : z.cps.size = 0 := by rw [← Array.length_toList, e]; rfl
          have e2 : z.length = z.cps.size := rfl
          omega
        obtain ⟨c0, rest, ec⟩ : ∃ c r, z.cps.toList = c :: r := List.exists_cons_of_ne_nil hne
        have en : nameOk z = (isL c0 && z.cps.toList.all fun c => isL c || isD c) := by
          unfold nameOk
          rw [decide_eq_true h1, decide_eq_true h2, ec]
          rfl
        refine ⟨_, rfl, z, 0, c0, rfl, rfl, le_line hz, (by rw [ec]; exact atI_nat (j := 0) rfl), c0, letters, rfl, rfl, isL c0, rfl, ?_⟩
        cases hc : isL c0 with
        | false =>
          refine iteF ?_
          have z0 := k H (Same.refl H)
          rw [en, hc] at z0
          exact z0
        | true =>
          refine iteT ?_
          refine ⟨_, rfl, z, rfl, fun D nD => lc_it (w := walk_str) (fun i H' => Same H H' ∧ H' D = some (.lst ((z.cps.toList.take i).map fun c => V.bl (isL c || isD c)))) ⟨Same.new nD, upd_same⟩ (fun _ _ _ _ => trivial) ?_ ?_⟩
          · rintro i x H1 H2 hi ⟨s1, e1⟩ ⟨rfl, c, hc, rfl⟩
            refine ⟨rfl, ?_⟩
            refine ⟨_, rfl, c, letters, rfl, rfl, isL c, rfl, ?_⟩
            have done : ∀ b : Bool, b = (isL c || isD c) → ∃ acc, H2 D = some (.lst acc) ∧ acc.length < sizeLine ∧ (Same H (upd H2 D (.lst (acc ++ [V.bl b]))) ∧ (upd H2 D (.lst (acc ++ [V.bl b]))) D = some (.lst ((z.cps.toList.take (i + 1)).map fun c => V.bl (isL c || isD c)))) := fun b hb => by
              refine ⟨_, e1, lt_line ?_, fun q o e => ?_, ?_⟩
              · have : z.cps.toList.length = z.length := rfl
                rw [List.length_map, List.length_take]
                omega
              · rw [upd_ne (ne_of_none e nD)]
                exact s1 _ _ e
              · rw [upd_same, hb]
                have g : z.cps.toList[i]? = some c := by
                  rw [Array.getElem?_toList]
                  exact hc
                rw [List.take_add_one, g, List.map_append]
                rfl
            cases hl : isL c with
            | true => exact iteT (done true (by rw [hl]; rfl))
            | false => exact iteF ⟨_, rfl, c, digits, rfl, rfl, done (isD c) (by rw [hl]; rfl)⟩
          · rintro H1 ⟨s1, e1⟩
            refine ⟨D, z.cps.toList.map fun c => isL c || isD c, rfl, lst_of ?_, ?_⟩
            · have : z.cps.toList.length ≤ z.cps.size := Nat.le_refl _
              rw [e1, List.take_of_length_le this, List.map_map]
              rfl
            · have z0 := k H1 s1
              rw [en, hc] at z0
              have e3 : (z.cps.toList.map fun c => isL c || isD c).all id = z.cps.toList.all fun c => isL c || isD c := by
                rw [List.all_map]
                rfl
              rw [e3]
              exact z0
      · refine ifT (by simp; omega) ?_
        have z0 := k H (Same.refl H)
        have en : nameOk z = false := by
          unfold nameOk
          rw [decide_eq_false h2]
          simp
        rw [en] at z0
        exact z0
    · refine ifF (decide_eq_false (show ¬ (1 : Int) ≤ (z.length : Nat) by omega)) ?_
      refine ⟨_, rfl, iteT ?_⟩
      have z0 := k H (Same.refl H)
      have en : nameOk z = false := by
        unfold nameOk
        rw [decide_eq_false h1]
        rfl
      rw [en] at z0
      exact z0
end
end MH
namespace MH
open PySem PySem.Spec PyProof.Rows L2
theorem str_at {ss : List Str} {i : Nat} {y : V} (h : (ss.map V.str)[i]? = some y) : ∃ z, ss[i]? = some z ∧ y = V.str z := by
  rw [List.getElem?_map] at h
  cases e : ss[i]? with
  | none =>
    rw [e] at h
    cases h
  | some z =>
    rw [e] at h
    exact ⟨z, rfl, (Option.some.inj h).symm⟩
section
variable {P : Program} {w : World} {K : PySem.W.Frag} {mg : Str → Option Value} {base : Heap}
theorem ok_first_wrong_in_row (T : Tx K mg) : FnOk P w K mg base CX0 2 T.a_first_wrong_in_row T.fd_first_wrong_in_row ["row"] (spFirstRow K) := by
  refine T.F_first_wrong_in_row.ok sc_first_wrong_in_row (fun vs H Q E h => ?_) (fun cdv A outer s H vs Q E hr h => ?_)
  · obtain ⟨t, row, rfl, _⟩ := h
    rfl
  · obtain ⟨t, row, rfl, hT, ro, k⟩ := h
    refine ⟨_, (pss_cons (ps_for PassesOwn.never rfl (pi_enumT (by rfl) T.n_enumerate (pa_cons (pv 0) pa_nil)) (pg_tup rfl (pgs_cons (pg_name (i := 1) sc_first_wrong_in_row.nd rfl (Or.inl rfl)) (pgs_cons (pg_name (i := 2) sc_first_wrong_in_row.nd rfl (Or.inl rfl)) pgs_nil)))
        (pss_one (ps_if (PW.pt (pw_or (pt_cmpR op_ge (pv 1) (pe_glob (v := .int 10) rfl T.g_MOST_THINGS.choose_spec ⟨_, rfl⟩) (nomark _)) (pw_or (pt_not (pt_val (pe_call (ok_is_name T) (hr.mono (by decide)) rfl T.g_is_name T.F_is_name.kp T.b_is_name .nil pass0 (pa_cons (pv 2) pa_nil)))) (pw_or1 (pt_cmpR op_in_seq (pv 2) (pe_slice sl_tupA (pv 0) po_none (po_some (pv 1))) (by rfl))))))
        (pss_one (ps_ret (pv 1)))
        pss_nil)))
      (pss_one (ps_ret pe_non))), ?_⟩
    refine ⟨_, rfl, t, _, rfl, hT, for_it walk_enumT (fun i σ H' => Same H H' ∧ ∃ v1 v2, σ = [some (.ref t), v1, v2]) ⟨Same.refl H, none, none, rfl⟩ (fun i σ H' _ h => h.1.sqt hT) ?_ ?_⟩
    · rintro i x σ H1 H2 hi ⟨s1, v1, v2, rfl⟩ ⟨p, y1, y2, rfl, np, rfl, e1, e2⟩
      cases e1
      rw [List.length_map] at hi
      obtain ⟨z, hz, rfl⟩ := str_at e2
      have s2 := s1.new' np (o := .tup [.int (i : Nat), .str z])
      refine ⟨p, _, rfl, tup_of upd_same, rfl, _, _, rfl, _, _, rfl, rfl, ?_⟩
      refine ⟨_, rfl, _, _, rfl, rfl, _, rfl, ifF (decide_eq_false (by have := ro.le; omega)) ?_⟩
      have hok := ro.ok z (List.mem_of_getElem? hz)
      refine ⟨_, rfl, z, rfl, Nat.le_trans (nameOk_len hok) (by decide), fun H2 s3 => ?_⟩
      rw [hok]
      refine ⟨true, rfl, iteF ?_⟩
      refine ⟨_, rfl, _, rfl, _, rfl, _, rfl, slA_of (s3.sqt (s2.sqt hT)) fun q H3 s4 hq => ?_⟩
      rw [cut_upto, ← List.map_take] at hq
      refine ⟨q, _, rfl, .inr hq, rfl, flat_strs _, ?_⟩
      refine ⟨_, rfl, ifF (show inV (.str z) ((row.take i).map V.str) = false from ?_) ⟨((s2.trans s3).trans s4), _, _, rfl⟩⟩
      rw [inV_strs]
      refine decide_eq_false fun m => ?_
      obtain ⟨j, hj, e⟩ := List.mem_iff_getElem.mp m
      rw [List.length_take] at hj
      rw [List.getElem_take] at e
      obtain ⟨hi', e3⟩ := List.getElem?_eq_some_iff.mp hz
      have := (List.getElem_inj ro.nd).mp (e.trans e3.symm)
      omega
    · rintro σ H1 ⟨s1, v1, v2, rfl⟩
      exact k H1 s1
def spCheckRow (K : PySem.W.Frag) : Sp := fun vs H Q _ => ∃ (t : Addr) (row : List Str), vs = [.ref t] ∧ SqT K H t (row.map V.str) ∧ RowOk row ∧ ∀ H', Same H H' → Q .non H'
def spCheckMenu (K : PySem.W.Frag) : Sp := fun vs H Q _ => ∃ (m t : Addr) (ms ss : List Str), vs = [.ref m, .ref t] ∧ SqT K H m (ms.map V.str) ∧ SqT K H t (ss.map V.str) ∧ ms ≠ [] ∧ ms.length ≤ 1000 ∧ (∀ z ∈ ms, z ∈ ss) ∧ ms.Pairwise ltS ∧ ∀ H', Same H H' → Q .non H'
def spCheckThing (K : PySem.W.Frag) : Sp := fun vs H Q _ => ∃ (z : Str) (t : Addr) (ss : List Str), vs = [.str z, .ref t] ∧ SqT K H t (ss.map V.str) ∧ z ∈ ss ∧ Q .non H
theorem pos_of_ne {ss : List Str} (h : ss ≠ []) : decide (0 < (ss.map V.str).length) = true := by
  cases ss with
  | nil => exact absurd rfl h
  | cons a r => rfl
theorem ok_check_row (T : Tx K mg) : FnOk P w K mg base CX0 3 T.a_check_row T.fd_check_row ["row"] (spCheckRow K) := by
  refine T.F_check_row.ok sc_check_row (fun vs H Q E h => ?_) (fun cdv A outer s H vs Q E hr h => ?_)
  · obtain ⟨t, row, rfl, _⟩ := h
    rfl
  · obtain ⟨t, row, rfl, hT, ro, k⟩ := h
    refine ⟨_, (pss_cons (ps_if (pt_not (pt_val (pe_call (ok_is_filled_tuple T) (hr.mono (by decide)) rfl T.g_is_filled_tuple T.F_is_filled_tuple.kp T.b_is_filled_tuple .nil pass0 (pa_cons (pv 0) pa_nil))))
        (pss_one ps_never)
        pss_nil)
      (pss_cons (ps_set (i := 1) sc_check_row.nd rfl (Or.inl rfl) (pe_call (ok_first_wrong_in_row T) (hr.mono (by decide)) rfl T.g_first_wrong_in_row T.F_first_wrong_in_row.kp T.b_first_wrong_in_row .nil pass0 (pa_cons (pv 0) pa_nil)))
      (pss_one (ps_if (pt_cmpR op_notN (pv 1) pe_non (nomark _))
        (pss_one ps_never)
        pss_nil)))), ?_⟩
    refine ⟨_, rfl, t, _, rfl, hT, _, rfl, ifF (by rw [pos_of_ne ro.ne]; rfl) ?_⟩
    refine ⟨_, rfl, t, row, rfl, hT, ro, fun H1 s1 => ?_⟩
    exact ⟨_, rfl, rfl, _, rfl, iteF (k H1 s1)⟩
end
end MH
namespace MH
open PySem PySem.Spec PyProof.Rows L2
theorem nrt : ¬ (("_row" : Str) = "_things") := by decide +kernel
def pf (t ts : Addr) : List (Str × V) := putF "_things" (.ref ts) (putF "_row" (.ref t) [])
theorem pf_row (t ts : Addr) : (pf t ts).lookup ("_row" : Str) = some (.ref t) := by
  unfold pf
  rw [lookup_putF, if_neg nrt, lookup_putF, if_pos rfl]
theorem pf_things (t ts : Addr) : (pf t ts).lookup ("_things" : Str) = some (.ref ts) := by
  unfold pf
  rw [lookup_putF, if_pos rfl]
theorem pf_no (t ts : Addr) {m : Str} (h1 : ¬ m = "_things") (h2 : ¬ m = "_row") : (pf t ts).lookup m = none := by
  unfold pf
  rw [lookup_putF, if_neg h1, lookup_putF, if_neg h2]
  rfl
theorem sqt_but {K : PySem.W.Frag} {p a : Addr} {H H' : Hp} {C dx : Addr} {fs : List (Str × V)} {xs : List V} (s : SameB p H H') (hp : H p = some (.ins C dx fs)) (h : SqT K H a xs) : SqT K H' a xs := by
  rcases h with (h | ⟨o, h⟩) | h
  · exact .inl (.inl (s _ _ (ne_of h hp (by intro q; cases q)) h))
  · exact .inl (.inr ⟨o, s _ _ (ne_of h hp (by intro q; cases q)) h⟩)
  · exact .inr h
/-- a ranking with this row stands at x -/
def RkAt (K : PySem.W.Frag) (C : Addr) (H : Hp) (x : Addr) (row : List Str) : Prop := ∃ (dx t ts : Addr) (th : List Str), H x = some (.ins C dx (pf t ts)) ∧ SqT K H t (row.map V.str) ∧ SqT K H ts (th.map V.str) ∧ th.Perm row ∧ sortedS th = true ∧ RowOk row
theorem RkAt.same {K : PySem.W.Frag} {C x : Addr} {H H' : Hp} {row : List Str} (r : RkAt K C H x row) (s : Same H H') : RkAt K C H' x row := by
  obtain ⟨dx, t, ts, th, h1, h2, h3, h4⟩ := r
  exact ⟨dx, t, ts, th, s _ _ h1, s.sqt h2, s.sqt h3, h4⟩
theorem RkAt.sameB {K : PySem.W.Frag} {C x p : Addr} {H H' : Hp} {row : List Str} {zs : List V} (r : RkAt K C H x row) (s : SameB p H H') (hp : H p = some (.lst zs)) : RkAt K C H' x row := by
  obtain ⟨dx, t, ts, th, h1, h2, h3, h4⟩ := r
  exact ⟨dx, t, ts, th, s _ _ (ne_of h1 hp (by intro q; cases q)) h1, s.sqt hp h2, s.sqt hp h3, h4⟩
theorem RkAt.ok {K : PySem.W.Frag} {C x : Addr} {H : Hp} {row : List Str} (r : RkAt K C H x row) : RowOk row := by
  obtain ⟨_, _, _, _, _, _, _, _, _, h⟩ := r
  exact h
def spInit (K : PySem.W.Frag) (C : Addr) : Sp := fun vs H Q _ => ∃ (x dx t : Addr) (row : List Str), vs = [.ref x, .ref t] ∧ H x = some (.ins C dx []) ∧ SqT K H t (row.map V.str) ∧ RowOk row ∧ ∀ H', SameB x H H' → RkAt K C H' x row → Q .non H'
def spRow (K : PySem.W.Frag) (C : Addr) : Sp := fun vs H Q _ => ∃ (x : Addr) (row : List Str), vs = [.ref x] ∧ RkAt K C H x row ∧ ∀ t, SqT K H t (row.map V.str) → Q (.ref t) H
def spThs (K : PySem.W.Frag) (C : Addr) : Sp := fun vs H Q _ => ∃ (x : Addr) (row : List Str), vs = [.ref x] ∧ RkAt K C H x row ∧ ∀ t th, SqT K H t (th.map V.str) → th.Perm row → sortedS th = true → Q (.ref t) H
def firstIn (row ms : List Str) : Str := (row.filter fun z => decide (z ∈ ms)).headD ""
def spBest (K : PySem.W.Frag) (C : Addr) : Sp := fun vs H Q _ => ∃ (x m : Addr) (row ms : List Str), vs = [.ref x, .ref m] ∧ RkAt K C H x row ∧ SqT K H m (ms.map V.str) ∧ ms ≠ [] ∧ (∀ z ∈ ms, z ∈ row) ∧ ms.Pairwise ltS ∧ ms.length ≤ 1000 ∧
  ∀ H', Same H H' → Q (.str (firstIn row ms)) H'
/-- a row without names -/
def less (row ns : List Str) : List Str := row.filter fun z => !decide (z ∈ ns)
def spWithout (K : PySem.W.Frag) (C : Addr) : Sp := fun vs H Q _ => ∃ (x p : Addr) (row ns : List Str), vs = [.ref x, .ref p] ∧ RkAt K C H x row ∧ SqT K H p (ns.map V.str) ∧ ns.length ≤ 5 ∧ (∀ z ∈ ns, z ∈ row) ∧ less row ns ≠ [] ∧
  ∀ x' H', Same H H' → RkAt K C H' x' (less row ns) → Q (.ref x') H'
def spNeg (K : PySem.W.Frag) (C : Addr) : Sp := fun vs H Q _ => ∃ (x : Addr) (row : List Str), vs = [.ref x] ∧ RkAt K C H x row ∧ ∀ x' H', Same H H' → RkAt K C H' x' row.reverse → Q (.ref x') H'
def spStr (K : PySem.W.Frag) (C : Addr) : Sp := fun vs H Q _ => ∃ (x : Addr) (row : List Str), vs = [.ref x] ∧ RkAt K C H x row ∧ Q (.str (Txt.join " " row)) H
/-- the own == against a value of another kind -/
def spEqX (K : PySem.W.Frag) (C : Addr) : Sp := fun vs H Q _ => ∃ (a : Addr) (v : V) (N : String) (r1 : List Str), vs = [.ref a, v] ∧ RkAt K C H a r1 ∧ TyX K H v (.type N) ∧ PySem.W.kitOne K (.type N) (.ref C) = some false ∧ Q (.bl false) H
def spOf (K : PySem.W.Frag) (C : Addr) : Sp := fun vs H Q _ => ∃ (p : Addr) (row : List Str), vs = [.ref C, .ref p] ∧ SqT K H p (row.map V.str) ∧ RowOk row ∧ ∀ x' H', Same H H' → RkAt K C H' x' row → Q (.ref x') H'
def spRead (K : PySem.W.Frag) (C : Addr) : Sp := fun vs H Q _ => ∃ (row : List Str), vs = [.ref C, .str (Txt.join " " row)] ∧ RowOk row ∧ ∀ x' H', Same H H' → RkAt K C H' x' row → Q (.ref x') H'
def spGet (K : PySem.W.Frag) (C : Addr) : Sp := fun vs H Q _ => ∃ (x : Addr) (row : List Str) (z : Str) (j : Nat), vs = [.ref x, .int (j : Nat)] ∧ RkAt K C H x row ∧ row[j]? = some z ∧ Q (.str z) H
def spHas (K : PySem.W.Frag) (C : Addr) : Sp := fun vs H Q _ => ∃ (x : Addr) (v : V) (row : List Str), vs = [.ref x, v] ∧ RkAt K C H x row ∧ ((∃ z : Str, v = .str z ∧ Q (.bl (decide (z ∈ row))) H) ∨ (∃ T : String, TyX K H v (.type T) ∧ kitB T "str" = some false ∧ Q (.bl false) H))
def spLen (K : PySem.W.Frag) (C : Addr) : Sp := fun vs H Q _ => ∃ (x : Addr) (row : List Str), vs = [.ref x] ∧ RkAt K C H x row ∧ Q (.int (row.length : Nat)) H
def spRepr (K : PySem.W.Frag) (C : Addr) : Sp := fun vs H Q _ => ∃ (x : Addr) (row : List Str), vs = [.ref x] ∧ RkAt K C H x row ∧ Q (.str ("Ranking " ++ Txt.join " " row)) H
def spIndex : Sp := fun vs H Q _ => ∃ (j n : Nat), vs = [.int (j : Nat), .int (n : Nat)] ∧ j < n ∧ Q (.bl true) H
def spEqR (K : PySem.W.Frag) (C : Addr) : Sp := fun vs H Q _ => ∃ (a b : Addr) (r1 r2 : List Str), vs = [.ref a, .ref b] ∧ RkAt K C H a r1 ∧ RkAt K C H b r2 ∧ Q (.bl (decide (r1 = r2))) H
/-- a comprehension that keeps what is on a menu, and its first -/
theorem take_filter {ss : List Str} {f : Str → Bool} {i : Nat} {z : Str} (h : ss[i]? = some z) : (ss.take (i + 1)).filter f = (ss.take i).filter f ++ (if f z then [z] else []) := by
  rw [List.take_add_one, h, List.filter_append]
  cases hf : f z <;> simp [hf]
theorem filter_ne {row ms : List Str} (hne : ms ≠ []) (hin : ∀ z ∈ ms, z ∈ row) : (row.filter fun z => decide (z ∈ ms)) ≠ [] := by
  obtain ⟨a, r, rfl⟩ := List.exists_cons_of_ne_nil hne
  intro e
  have m : a ∈ row.filter fun z => decide (z ∈ a :: r) := List.mem_filter.mpr ⟨hin a List.mem_cons_self, by simp⟩
  rw [e] at m
  cases m
theorem RowOk.less {row ns : List Str} (h : RowOk row) (ne : MH.less row ns ≠ []) : RowOk (MH.less row ns) where
  ne := ne
  le := Nat.le_trans (List.length_filter_le _ _) h.le
  nd := h.nd.filter _
  ok := fun z hz => h.ok z (List.mem_filter.mp hz).1
theorem RowOk.rev {row : List Str} (h : RowOk row) : RowOk row.reverse where
  ne := fun e => h.ne (List.reverse_eq_nil_iff.mp e)
  le := by rw [List.length_reverse]; exact h.le
  nd := (List.reverse_perm row).nodup_iff.mpr h.nd
  ok := fun z hz => h.ok z (List.mem_reverse.mp hz)
theorem eqvAll_strs : ∀ xs ys : List Str, PyData.eqvAll (xs.map PyData.str) (ys.map PyData.str) = decide (xs = ys)
  | [], [] => by simp [PyData.eqvAll]
  | [], _ :: _ => by simp [PyData.eqvAll]
  | _ :: _, [] => by simp [PyData.eqvAll]
  | x :: xs, y :: ys => by
    rw [List.map_cons, List.map_cons, PyData.eqvAll, eqvAll_strs xs ys, PyData.eqv]
    by_cases e : x = y
    · subst e
      simp
    · simp [e]
theorem eqv_strs (xs ys : List Str) : PyData.eqv (.tuple (xs.map PyData.str)) (.tuple (ys.map PyData.str)) = decide (xs = ys) := by
  rw [PyData.eqv]
  exact eqvAll_strs xs ys
theorem eqv_strsL (xs ys : List Str) : PyData.eqv (.list (xs.map PyData.str)) (.list (ys.map PyData.str)) = decide (xs = ys) := by
  rw [PyData.eqv]
  exact eqvAll_strs xs ys
theorem shaped_strs {ss : List Str} (h : ∀ z ∈ ss, nameOk z = true) : SeqAt.shaped (.tuple (ss.map PyData.str)) = true := shaped_of (d := .tuple (ss.map PyData.str)) (okDs_strs fun z hz => nameOk_str (h z hz)) (by simp only [PyData.depth, depth_strs]; decide)
theorem shaped_strsL {ss : List Str} (h : ∀ z ∈ ss, nameOk z = true) : SeqAt.shaped (.list (ss.map PyData.str)) = true := shaped_of (d := .list (ss.map PyData.str)) (okDs_strs fun z hz => nameOk_str (h z hz)) (by simp only [PyData.depth, depth_strs]; decide)
/-- tuples of names held against each other -/
theorem eqT_of {K : PySem.W.Frag} {H : Hp} {a b : Addr} {xs ys : List Str} {Q : VK} (ha : SqT K H a (xs.map V.str)) (hb : SqT K H b (ys.map V.str)) (hx : ∀ z ∈ xs, nameOk z = true) (hy : ∀ z ∈ ys, nameOk z = true) (q : Q (.bl (decide (xs = ys))) H) : rEqD K (.ref a) (.ref b) H Q := by
  refine ⟨_, _, .tup ha (dp_strs xs), .tup hb (dp_strs ys), shaped_strs hx, shaped_strs hy, ?_⟩
  rw [eqv_strs]
  exact q
theorem neT_of {K : PySem.W.Frag} {H : Hp} {a b : Addr} {xs ys : List Str} {Q : VK} (ha : SqT K H a (xs.map V.str)) (hb : SqT K H b (ys.map V.str)) (hx : ∀ z ∈ xs, nameOk z = true) (hy : ∀ z ∈ ys, nameOk z = true) (q : Q (.bl (!decide (xs = ys))) H) : rNeD K (.ref a) (.ref b) H Q := by
  refine ⟨_, _, .tup ha (dp_strs xs), .tup hb (dp_strs ys), shaped_strs hx, shaped_strs hy, ?_⟩
  rw [eqv_strs]
  exact q
theorem join_le {row : List Str} (h : RowOk row) : (row.map (·.length)).sum + row.length * (" " : Str).length ≤ 16777216 := by
  have : ∀ l : List Str, (∀ z ∈ l, nameOk z = true) → (l.map (·.length)).sum ≤ l.length * 8 := fun l hl => by
    induction l with
    | nil => exact Nat.le_refl _
    | cons z r ih =>
      have a := nameOk_len (hl z List.mem_cons_self)
      have b := ih fun y hy => hl y (List.mem_cons_of_mem _ hy)
      rw [List.map_cons, List.sum_cons, List.length_cons]
      omega
  have a := this row h.ok
  have b := h.le
  have e : (" " : Str).length = 1 := rfl
  rw [e]
  omega
theorem no_blank {z : Str} (h : nameOk z = true) : (32 : Nat) ∉ TL.tl z := by
  intro m
  unfold nameOk at h
  simp only [Bool.and_eq_true, decide_eq_true_eq] at h
  have q := h.2.2.2
  rw [List.all_eq_true] at q
  have w := q 32 m
  revert w
  decide +kernel
theorem joined_len {row : List Str} (h : RowOk row) : (Txt.join " " row).length ≤ 1000 := by
  have e : Txt.join " " row = Str.join " " row := TL.join_eq " " row
  have a := PySem.StrLaws.join_length_le " " row
  have : ∀ l : List Str, (∀ z ∈ l, nameOk z = true) → (l.map (·.length)).sum ≤ l.length * 8 := fun l hl => by
    induction l with
    | nil => exact Nat.le_refl _
    | cons z r ih =>
      have a := nameOk_len (hl z List.mem_cons_self)
      have b := ih fun y hy => hl y (List.mem_cons_of_mem _ hy)
      rw [List.map_cons, List.sum_cons, List.length_cons]
      omega
  have b := this row h.ok
  have c := h.le
  have d : (" " : Str).length = 1 := rfl
  rw [e]
  rw [d] at a
  omega
section
variable {P : Program} {w : World} {K : PySem.W.Frag} {mg : Str → Option Value} {base : Heap}
theorem ok_RankingD_initD (T : Tx K mg) : FnOk P w K mg base CX0 4 T.a_RankingD_initD T.fd_RankingD_initD ["self", "row"] (spInit K T.C) := by
  refine T.F_RankingD_initD.ok sc_RankingD_initD (fun vs H Q E h => ?_) (fun cdv A outer s H vs Q E hr h => ?_)
  · obtain ⟨x, dx, t, row, rfl, _⟩ := h
    rfl
  · obtain ⟨x, dx, t, row, rfl, hx, hT, ro, k⟩ := h
    refine ⟨_, (pss_cons (ps_expr (pe_call (ok_check_row T) (hr.mono (by decide)) rfl T.g_check_row T.F_check_row.kp T.b_check_row .nil pass0 (pa_cons (pv 1) pa_nil)))
      (pss_cons (ps_fld (pv 0) (pv 1) rfl)
      (pss_one (ps_fld (pv 0) (pe_callTy call_tupF (by rfl) T.n_tuple (by decide +kernel) (pa_cons (pe_callB cr_sortedU (by rfl) T.n_sorted (by decide +kernel) (pa_cons (pv 1) pa_nil)) pa_nil)) rfl)))), ?_⟩
    refine ⟨_, rfl, t, row, rfl, hT, ro, fun H1 s1 => ?_⟩
    have hx1 := s1 _ _ hx
    refine ⟨_, rfl, _, rfl, x, T.C, dx, _, rfl, hx1, T.cl, T.no__row, (by show 0 < 1000; decide), ?_⟩
    have b2 : SameB x H (upd H1 x (.ins T.C dx (putF "_row" (.ref t) []))) := (SameB.of s1).put
    have hT2 := sqt_but (K := K) b2 hx hT
    have hz : row.length < 64 := by
      have := ro.le
      omega
    refine ⟨_, rfl, t, row, rfl, hT2, hz, fun ys p pm so np => ⟨p, _, rfl, .inl ⟨lst_of upd_same, fun u ou nu od => ?_⟩⟩⟩
    have b3 := (b2.new np (o := .lst (ys.map V.str))).new nu (o := .frz ou (.tup (ys.map V.str)))
    have npx : x ≠ p := fun e => by
      rw [← e, upd_same] at np
      cases np
    have nux : x ≠ u := fun e => by
      rw [← e, upd_ne npx, upd_same] at nu
      cases nu
    refine ⟨_, rfl, x, T.C, dx, _, rfl, (by rw [upd_ne nux, upd_ne npx]; exact upd_same), T.cl, T.no__things, (by show 1 < 1000; decide), ?_⟩
    refine k _ b3.put ⟨dx, t, u, ys, upd_same, sqt_but b3.put hx hT, ?_, pm, so, ro⟩
    refine frz_of (o := ou) ?_
    rw [upd_ne nux.symm]
    exact upd_same
theorem ok_Ranking_row (T : Tx K mg) : FnOk P w K mg base CX0 1 T.a_Ranking_row T.fd_Ranking_row ["self"] (spRow K T.C) := by
  refine T.F_Ranking_row.ok sc_Ranking_row (fun vs H Q E h => ?_) (fun cdv A outer s H vs Q E hr h => ?_)
  · obtain ⟨x, row, rfl, _⟩ := h
    rfl
  · obtain ⟨x, row, rfl, ⟨dx, t, ts, th, hx, hT, _⟩, k⟩ := h
    refine ⟨_, (pss_one (ps_ret (pe_fld (pv 0) rfl))), ?_⟩
    exact ⟨_, rfl, x, T.C, dx, _, _, rfl, hx, T.cl, T.no__row, pf_row t ts, k t hT⟩
theorem ok_Ranking_things (T : Tx K mg) : FnOk P w K mg base CX0 1 T.a_Ranking_things T.fd_Ranking_things ["self"] (spThs K T.C) := by
  refine T.F_Ranking_things.ok sc_Ranking_things (fun vs H Q E h => ?_) (fun cdv A outer s H vs Q E hr h => ?_)
  · obtain ⟨x, row, rfl, _⟩ := h
    rfl
  · obtain ⟨x, row, rfl, ⟨dx, t, ts, th, hx, hT, hS, pm, so, _⟩, k⟩ := h
    refine ⟨_, (pss_one (ps_ret (pe_fld (pv 0) rfl))), ?_⟩
    exact ⟨_, rfl, x, T.C, dx, _, _, rfl, hx, T.cl, T.no__things, pf_things t ts, k ts th hS pm so⟩
theorem ok_RankingD_strD (T : Tx K mg) : FnOk P w K mg base CX0 1 T.a_RankingD_strD T.fd_RankingD_strD ["self"] (spStr K T.C) := by
  refine T.F_RankingD_strD.ok sc_RankingD_strD (fun vs H Q E h => ?_) (fun cdv A outer s H vs Q E hr h => ?_)
  · obtain ⟨x, row, rfl, _⟩ := h
    rfl
  · obtain ⟨x, row, rfl, ⟨dx, t, ts, th, hx, hT, hS, pm, so, ro⟩, k⟩ := h
    refine ⟨_, (pss_one (ps_ret (pe_join pe_str (pe_fld (pv 0) rfl)))), ?_⟩
    exact ⟨⟨_, rfl⟩, _, rfl, x, T.C, dx, _, _, rfl, hx, T.cl, T.no__row, pf_row t ts, _, _, _, rfl, rfl, .inr hT, join_le ro, k⟩
theorem ok_RankingD_eqD (T : Tx K mg) : FnOk P w K mg base CX0 1 T.a_RankingD_eqD T.fd_RankingD_eqD ["self", "other"] (spEqR K T.C) := by
  refine T.F_RankingD_eqD.ok sc_RankingD_eqD (fun vs H Q E h => ?_) (fun cdv A outer s H vs Q E hr h => ?_)
  · obtain ⟨a, b, r1, r2, rfl, _⟩ := h
    rfl
  · obtain ⟨a, b, r1, r2, rfl, ⟨dx, t, ts, th, hx, hT, _, _, _, ro⟩, ⟨dx2, t2, ts2, th2, hx2, hT2, _, _, _, ro2⟩, k⟩ := h
    refine ⟨_, (pss_one (ps_ret (pe_and (pe_callB call_isi (by rfl) T.n_isinstance (by decide +kernel) (pa_cons (pv 1) (pa_cons (pe_glob (v := .ref T.C) rfl T.g_Ranking rfl) pa_nil))) (pe_one (pe_cmpR (op_eqD hr.units) (pe_fld (pv 0) rfl) (pe_fld (pv 1) rfl) (nomark _)))))), ?_⟩
    refine ⟨_, rfl, _, _, _, _, true, rfl, .own _, T.ty hx2, by unfold PySem.W.kitOne; rw [if_pos (beq_self_eq_true _)], true, rfl, iteT ?_⟩
    refine ⟨_, rfl, a, T.C, dx, _, _, rfl, hx, T.cl, T.no__row, pf_row t ts, _, rfl, b, T.C, dx2, _, _, rfl, hx2, T.cl, T.no__row, pf_row t2 ts2, ?_⟩
    exact eqT_of hT hT2 ro.ok ro2.ok k
theorem okX_RankingD_eqD (T : Tx K mg) : FnOk P w K mg base CX0 1 T.a_RankingD_eqD T.fd_RankingD_eqD ["self", "other"] (spEqX K T.C) := by
  refine T.F_RankingD_eqD.ok sc_RankingD_eqD (fun vs H Q E h => ?_) (fun cdv A outer s H vs Q E hr h => ?_)
  · obtain ⟨a, v, N, r1, rfl, _⟩ := h
    rfl
  · obtain ⟨a, v, N, r1, rfl, ⟨dx, t, ts, th, hx, hT, _, _, _, ro⟩, ty, kt, k⟩ := h
    refine ⟨_, (pss_one (ps_ret (pe_and (pe_callB call_isi (by rfl) T.n_isinstance (by decide +kernel) (pa_cons (pv 1) (pa_cons (pe_glob (v := .ref T.C) rfl T.g_Ranking rfl) pa_nil))) (pe_one (pe_cmpR (op_eqD hr.units) (pe_fld (pv 0) rfl) (pe_fld (pv 1) rfl) (nomark _)))))), ?_⟩
    exact ⟨_, rfl, _, _, _, _, false, rfl, .own _, ty, kt, false, rfl, iteF k⟩
theorem ok_is_index (T : Tx K mg) : FnOk P w K mg base CX0 1 T.a_is_index T.fd_is_index ["value", "many"] spIndex := by
  refine T.F_is_index.ok sc_is_index (fun vs H Q E h => ?_) (fun cdv A outer s H vs Q E hr h => ?_)
  · obtain ⟨j, n, rfl, _⟩ := h
    rfl
  · obtain ⟨j, n, rfl, hj, k⟩ := h
    refine ⟨_, (pss_one (ps_ret (pe_and (pe_callB call_isi (by rfl) T.n_isinstance (by decide +kernel) (pa_cons (pv 0) (pa_cons (pe_bltn (v := .ty "int") (by rfl) T.n_int (by decide +kernel) rfl) pa_nil))) (pe_and (pe_not (pe_callB call_isi (by rfl) T.n_isinstance (by decide +kernel) (pa_cons (pv 0) (pa_cons (pe_bltn (v := .ty "bool") (by rfl) T.n_bool (by decide +kernel) rfl) pa_nil)))) (pe_one (pe_chain op_le op_lt pe_int (pv 0) (pv 1))))))), ?_⟩
    refine ⟨_, rfl, _, _, _, _, true, rfl, .ty _, .base (.int _), kit_ty (by decide +kernel), true, rfl, iteT ?_⟩
    refine ⟨_, rfl, _, _, _, _, false, rfl, .ty _, .base (.int _), kit_ty (by decide +kernel), false, rfl, true, rfl, iteT ?_⟩
    refine ⟨_, rfl, _, _, rfl, rfl, ?_⟩
    refine ⟨_, rfl, ifT (decide_eq_true (by omega)) ?_⟩
    refine ⟨_, rfl, _, _, rfl, rfl, ?_⟩
    have e : decide ((j : Int) < (n : Int)) = true := decide_eq_true (by omega)
    show Q (.bl (decide ((j : Int) < (n : Int)))) H
    rw [e]
    exact k
theorem ok_RankingD_getitemD (T : Tx K mg) : FnOk P w K mg base CX0 3 T.a_RankingD_getitemD T.fd_RankingD_getitemD ["self", "at"] (spGet K T.C) := by
  refine T.F_RankingD_getitemD.ok sc_RankingD_getitemD (fun vs H Q E h => ?_) (fun cdv A outer s H vs Q E hr h => ?_)
  · obtain ⟨x, row, z, j, rfl, _⟩ := h
    rfl
  · obtain ⟨x, row, z, j, rfl, ⟨dx, t, ts, th, hx, hT, _, _, _, ro⟩, hj, k⟩ := h
    refine ⟨_, (pss_cons (ps_if (pt_not (pt_val (pe_call (ok_is_index T) (hr.mono (by decide)) rfl T.g_is_index T.F_is_index.kp T.b_is_index .nil pass0 (pa_cons (pv 1) (pa_cons (pe_callB call_len_seq (by rfl) T.n_len (by decide +kernel) (pa_cons (pe_fld (pv 0) rfl) pa_nil)) pa_nil)))))
        (pss_one ps_never)
        pss_nil)
      (pss_one (ps_ret (pe_ix ix_tup (pe_fld (pv 0) rfl) (pv 1) (fun _ _ => rfl))))), ?_⟩
    have hl : j < row.length := (List.getElem?_eq_some_iff.mp hj).1
    have g : (row.map V.str)[j]? = some (.str z) := by
      rw [List.getElem?_map, hj]
      rfl
    refine ⟨_, rfl, _, rfl, x, T.C, dx, _, _, rfl, hx, T.cl, T.no__row, pf_row t ts, t, _, rfl, .inr hT, j, _, rfl, by rw [List.length_map]; exact hl, true, rfl, iteF ?_⟩
    exact ⟨_, rfl, x, T.C, dx, _, _, rfl, hx, T.cl, T.no__row, pf_row t ts, _, rfl, t, _, _, _, rfl, rfl, hT, atI_nat g, k⟩
theorem ok_RankingD_containsD (T : Tx K mg) : FnOk P w K mg base CX0 2 T.a_RankingD_containsD T.fd_RankingD_containsD ["self", "x"] (spHas K T.C) := by
  refine T.F_RankingD_containsD.ok sc_RankingD_containsD (fun vs H Q E h => ?_) (fun cdv A outer s H vs Q E hr h => ?_)
  · obtain ⟨x, v, row, rfl, _⟩ := h
    rfl
  · obtain ⟨x, v, row, rfl, ⟨dx, t, ts, th, hx, hT, _, _, _, ro⟩, k⟩ := h
    refine ⟨_, (pss_one (ps_ret (pe_call (ok_is_one_of T) (hr.mono (by decide)) rfl T.g_is_one_of T.F_is_one_of.kp T.b_is_one_of .nil pass0 (pa_cons (pv 1) (pa_cons (pe_fld (pv 0) rfl) pa_nil))))), ?_⟩
    exact ⟨_, rfl, _, rfl, x, T.C, dx, _, _, rfl, hx, T.cl, T.no__row, pf_row t ts, v, t, row, rfl, hT, k⟩
theorem ok_RankingD_lenD (T : Tx K mg) : FnOk P w K mg base CX0 1 T.a_RankingD_lenD T.fd_RankingD_lenD ["self"] (spLen K T.C) := by
  refine T.F_RankingD_lenD.ok sc_RankingD_lenD (fun vs H Q E h => ?_) (fun cdv A outer s H vs Q E hr h => ?_)
  · obtain ⟨x, row, rfl, _⟩ := h
    rfl
  · obtain ⟨x, row, rfl, ⟨dx, t, ts, th, hx, hT, _, _, _, ro⟩, k⟩ := h
    refine ⟨_, (pss_one (ps_ret (pe_callB call_len_seq (by rfl) T.n_len (by decide +kernel) (pa_cons (pe_fld (pv 0) rfl) pa_nil)))), ?_⟩
    refine ⟨_, rfl, x, T.C, dx, _, _, rfl, hx, T.cl, T.no__row, pf_row t ts, t, _, rfl, .inr hT, ?_⟩
    show Q (.int ((row.map V.str).length : Nat)) H
    rw [List.length_map]
    exact k
theorem ok_RankingD_reprD (T : Tx K mg) : FnOk P w K mg base CX0 3 T.a_RankingD_reprD T.fd_RankingD_reprD ["self"] (spRepr K T.C) := by
  refine T.F_RankingD_reprD.ok sc_RankingD_reprD (fun vs H Q E h => ?_) (fun cdv A outer s H vs Q E hr h => ?_)
  · obtain ⟨x, row, rfl, _⟩ := h
    rfl
  · obtain ⟨x, row, rfl, rk, k⟩ := h
    obtain ⟨dx, t, ts, th, hx, hT, _, _, _, ro⟩ := id rk
    refine ⟨_, (pss_one (ps_ret (pe_joined (PJ.cons pe_str (PJ.cons (pe_fmtO T.m_RankingD_strD T.fm T.ob (ok_RankingD_strD T) (hr.mono (by decide)) T.b_RankingD_strD pass0 (pv 0)) PJ.nil))))), ?_⟩
    refine ⟨_, rfl, by decide, _, rfl, x, dx, _, rfl, hx, x, row, rfl, rk, ⟨_, rfl⟩, _, rfl, ?_, ?_⟩
    · have := joined_len ro
      rw [strLen_append, strLen_append]
      show 0 + 8 + (Txt.join " " row).length ≤ _
      exact le_line (by omega)
    · exact k
theorem okR_Ranking_of (T : Tx K mg) : FnR P w K mg base CX0 6 T.a_Ranking_of (fun vs H Q _ => ∃ v rest, vs = v :: rest ∧ rest.length ≤ 5 ∧ ∀ p, H p = none → spOf K T.C [v, .ref p] (upd H p (.tup rest)) Q E0) := by
  refine fun_star (k := 5) (sp := spOf K T.C) T.F_Ranking_of sc_Ranking_of T.bv_Ranking_of fun cdv A outer s H vs Q hr h => ?_
  obtain ⟨p, row, rfl, hP, ro, k⟩ := h
  refine ⟨_, (pss_one (ps_ret (pe_makeV T.mkc (ok_RankingD_initD T) (hr.mono (by decide)) (pv 0) T.b_RankingD_initD pass0 (pa_cons (pv 1) pa_nil)))), ?_⟩
  refine ⟨_, rfl, rfl, _, rfl, fun y dy ny ndy hne2 => ⟨y, dy, p, row, rfl, upd_same, ?_, ro, fun H3 s3 rk3 => ⟨rfl, ?_⟩⟩⟩
  · refine Same.sqt (H := H) ?_ hP
    refine Same.new' (Same.new ndy) ?_
    rw [upd_ne hne2.symm]
    exact ny
  · refine k y H3 ?_ rk3
    intro b o e
    have nb : b ≠ y := ne_of_none e ny
    refine s3 b o nb ?_
    rw [upd_ne nb, upd_ne (ne_of_none e ndy)]
    exact e
theorem ok_Ranking_read (T : Tx K mg) : FnOk P w K mg base CX0 6 T.a_Ranking_read T.fd_Ranking_read ["cls", "text"] (spRead K T.C) := by
  refine T.F_Ranking_read.ok sc_Ranking_read (fun vs H Q E h => ?_) (fun cdv A outer s H vs Q E hr h => ?_)
  · obtain ⟨row, rfl, _⟩ := h
    rfl
  · obtain ⟨row, rfl, ro, k⟩ := h
    refine ⟨_, (pss_cons (ps_if (pt_not (pt_val (pe_callB call_isi (by rfl) T.n_isinstance (by decide +kernel) (pa_cons (pv 1) (pa_cons (pe_bltn (v := .ty "str") (by rfl) T.n_str (by decide +kernel) rfl) pa_nil)))))
        (pss_one ps_never)
        pss_nil)
      (pss_cons (ps_set (i := 2) sc_Ranking_read.nd rfl (Or.inl rfl) (pe_callTy call_tupF (by rfl) T.n_tuple (by decide +kernel) (pa_cons (pe_split (pv 1) pe_str) pa_nil)))
      (pss_cons (ps_if (pt_cmpR op_notN (pe_call (ok_first_wrong_in_row T) (hr.mono (by decide)) rfl T.g_first_wrong_in_row T.F_first_wrong_in_row.kp T.b_first_wrong_in_row .nil pass0 (pa_cons (pv 2) pa_nil)) pe_non (nomark _))
        (pss_one ps_never)
        pss_nil)
      (pss_one (ps_ret (pe_makeV T.mkc (ok_RankingD_initD T) (hr.mono (by decide)) (pv 0) T.b_RankingD_initD pass0 (pa_cons (pv 2) pa_nil))))))), ?_⟩
    refine ⟨_, rfl, _, _, _, _, true, rfl, .ty _, .base (.str _), kit_ty (by decide +kernel), true, rfl, iteF ?_⟩
    have sp : Txt.split (Txt.join " " row) " " = row := by
      refine TL.split_join (s := 32) (S := []) (by decide +kernel) (by decide +kernel) ro.ne fun z hz => ?_
      exact no_blank (ro.ok z hz)
    refine ⟨_, rfl, ⟨_, rfl⟩, _, _, rfl, rfl, by decide, ?_, ?_⟩
    · have := joined_len ro
      exact le_line (by omega)
    rw [sp]
    intro l nl
    refine ⟨l, _, rfl, .inl ⟨lst_of upd_same, fun u ou nu od => ?_⟩⟩
    have s1 := (Same.new nl (o := .lst (row.map V.str))).new' nu (o := .frz ou (.tup (row.map V.str)))
    have hu : SqT K (upd (upd H l (.lst (row.map V.str))) u (.frz ou (.tup (row.map V.str)))) u (row.map V.str) := frz_of upd_same
    generalize upd (upd H l (.lst (row.map V.str))) u (.frz ou (.tup (row.map V.str))) = H1 at s1 hu ⊢
    refine ⟨_, rfl, u, row, rfl, hu, ro, fun H2 s2 => ⟨rfl, _, rfl, iteF ?_⟩⟩
    refine ⟨_, rfl, rfl, _, rfl, fun y dy ny ndy hne2 => ⟨y, dy, u, row, rfl, upd_same, ?_, ro, fun H3 s3 rk3 => ⟨rfl, ?_⟩⟩⟩
    · refine Same.sqt (H := H2) ?_ (s2.sqt hu)
      refine Same.new' (Same.new ndy) ?_
      rw [upd_ne hne2.symm]
      exact ny
    · refine k y H3 ?_ rk3
      intro b o e
      have e := (s1.trans s2) _ _ e
      have nb : b ≠ y := ne_of_none e ny
      refine s3 b o nb ?_
      rw [upd_ne nb, upd_ne (ne_of_none e ndy)]
      exact e
end
end MH
namespace MH
open PySem PySem.Spec PyProof.Rows L2
def spNear (K : PySem.W.Frag) : Sp := fun vs H Q _ => ∃ (p t : Addr) (row : List Str), vs = [.ref p, .ref t] ∧ Pu H p ∧ SqT K H t (row.map V.str) ∧ row.length ≤ 1000 ∧
  ∀ (row' : List Str) (a : Addr) (H' : Hp), row'.Perm row → SameB p H H' → Pu H' p → SqT K H' a (row'.map V.str) → Q (.ref a) H'
def spMade (K : PySem.W.Frag) (C : Addr) : Sp := fun vs H Q _ => ∃ (p t : Addr) (row : List Str), vs = [.ref p, .ref t] ∧ Pu H p ∧ SqT K H t (row.map V.str) ∧ RowOk row ∧
  ∀ (x' : Addr) (H' : Hp), SameB p H H' → Pu H' p → RkAt K C H' x' row → Q (.ref x') H'
theorem small_row {row : List Str} (h : row ≠ []) (h2 : row.length ≤ 3) : (∃ a, row = [a]) ∨ (∃ a b, row = [a, b]) ∨ ∃ a b c, row = [a, b, c] := by
  match row, h, h2 with
  | [a], _, _ => exact .inl ⟨a, rfl⟩
  | [a, b], _, _ => exact .inr (.inl ⟨a, b, rfl⟩)
  | [a, b, c], _, _ => exact .inr (.inr ⟨a, b, c, rfl⟩)
  | _ :: _ :: _ :: _ :: _, _, h2 =>
    simp only [List.length_cons] at h2
    omega
theorem swap_map {l : List Str} {i j : Nat} {a b : Str} : ((l.map V.str).set i (V.str a)).set j (V.str b) = ((l.set i a).set j b).map V.str := by
  rw [List.map_set, List.map_set]
theorem ix_nat {n j : Nat} (hj : j < n) : ixN n (j : Int) = some j := by
  unfold ixN
  rw [if_pos (by omega), if_pos (by omega), Int.toNat_natCast]
section
variable {P : Program} {w : World} {K : PySem.W.Frag} {mg : Str → Option Value} {base : Heap}
theorem ok_l_near (T : Tx K mg) : FnOk P w K mg base CX0 7 T.a_l_near T.fd_l_near ["_law_purse_here", "_law_rank"] (spNear K) := by
  refine T.F_l_near.ok sc_l_near (fun vs H Q E h => ?_) (fun cdv A outer s H vs Q E hr h => ?_)
  · obtain ⟨p, t, row, rfl, _⟩ := h
    rfl
  · obtain ⟨p, t, row, rfl, pu, hT, hz, k⟩ := h
    refine ⟨_, (pss_cons (ps_set (i := 2) sc_l_near.nd rfl (Or.inl rfl) (pe_callTy call_list_of (by rfl) T.n_list (by decide +kernel) (pa_cons (pv 1) pa_nil)))
      (pss_cons (ps_for PassesOwn.never rfl (pi_range1 (by rfl) T.n_range (pa_cons (pe_ifExp (pt_cmpR op_gt (pe_callB call_len_seq (by rfl) T.n_len (by decide +kernel) (pa_cons (pv 1) pa_nil)) pe_int (nomark _)) (pe_call (ok_l_draw T) (hr.mono (by decide)) rfl T.g_l_draw T.F_l_draw.kp T.b_l_draw .nil pass0 (pa_cons (pv 0) (pa_cons pe_int pa_nil))) pe_int) pa_nil)) (pg_name (i := 3) sc_l_near.nd rfl (Or.inl rfl))
        (pss_cons (ps_set (i := 4) sc_l_near.nd rfl (Or.inl rfl) (pe_call (ok_l_draw T) (hr.mono (by decide)) rfl T.g_l_draw T.F_l_draw.kp T.b_l_draw .nil pass0 (pa_cons (pv 0) (pa_cons (pe_op op_sub (pe_callB call_len_seq (by rfl) T.n_len (by decide +kernel) (pa_cons (pv 1) pa_nil)) pe_int) pa_nil))))
      (pss_one (ps_asg (pe_tup (pa_cons (pe_ix ix_list (pv 2) (pe_op op_add (pv 4) pe_int) (fun _ _ => rfl)) (pa_cons (pe_ix ix_list (pv 2) (pv 4) (fun _ _ => rfl)) pa_nil))) (pg_tup rfl (pgs_cons (pg_sub (pv 2) (pv 4) set_list) (pgs_cons (pg_sub (pv 2) (pe_op op_add (pv 4) pe_int) set_list) pgs_nil)))))))
      (pss_one (ps_ret (pe_callTy call_tupF (by rfl) T.n_tuple (by decide +kernel) (pa_cons (pv 2) pa_nil)))))), ?_⟩
    have lm : (row.map V.str).length = row.length := List.length_map _
    refine ⟨_, rfl, t, _, rfl, .inr hT, fun l nl => ?_⟩
    have s0 := Same.new nl (o := .lst (row.map V.str))
    have hl0 : (upd H l (.lst (row.map V.str))) l = some (.lst (row.map V.str)) := upd_same
    have npl : p ≠ l := by
      obtain ⟨_, _, q, _⟩ := id pu
      exact ne_of_none q nl
    have pu0 := pu.same s0
    have hT0 := s0.sqt hT (K := K)
    generalize upd H l (.lst (row.map V.str)) = H0 at s0 hl0 pu0 hT0 ⊢
    refine ⟨_, rfl, t, _, rfl, .inr hT0, _, _, rfl, rfl, _, rfl, ?_⟩
    refine ite2 (fun c => ?a1) (fun c => ?a2)
    case' a1 =>
      refine ⟨_, rfl, p, 3, rfl, pu0, by decide, by decide, fun d H1 d0 d1 sb1 pu1 => ⟨_, rfl, by omega, by omega, ?_⟩⟩
      have c1 : 1 < row.length := by
        have := of_decide_eq_true c
        omega
      generalize d.toNat = n
      have c2 : 0 < n → 1 < row.length := fun _ => c1
      have sb01 : SameB p H H1 := (SameB.of s0).trans sb1
      have hl1 := sb1 _ _ npl.symm hl0
      have hT1 : SqT K H1 t (row.map V.str) := pu0.sqt sb1 hT0
    case' a2 =>
      refine ⟨_, rfl, by decide, by decide, ?_⟩
      generalize hn : (0 : Int).toNat = n
      have c2 : 0 < n → 1 < row.length := fun h => by
        rw [← hn] at h
        cases h
      have sb01 : SameB p H H0 := SameB.of s0
      have hl1 := hl0
      have pu1 := pu0
      have hT1 := hT0
      have c1 := c
      have sb1 := SameB.refl p H0
      have d0 := hz
      have d1 := hz
      generalize H0 = H1 at sb01 hl1 pu1 hT1 sb1
      have d := hz
    all_goals
      refine for_range (lo := 0) (n := n) (fun i σ H' => ∃ (found : List Str) (v3 v4 : Option V), σ = [some (.ref p), some (.ref t), some (.ref l), v3, v4] ∧ H' l = some (.lst (found.map V.str)) ∧ found.Perm row ∧ SameB p H H' ∧ Pu H' p ∧ SqT K H' t (row.map V.str))
        ⟨row, none, none, rfl, hl1, List.Perm.refl _, sb01, pu1, hT1⟩ ?_ ?_
      · rintro i σ H3 hi ⟨found, v3, v4, rfl, hl3, pm, sb3, pu3, hT3⟩
        have hr1 : 1 < row.length := c2 (by omega)
        have fl := pm.length_eq
        refine ⟨_, rfl, _, rfl, t, _, rfl, .inr hT3, _, _, rfl, rfl, p, _, rfl, pu3, by omega, by omega, fun g H4 g0 g1 sb4 pu4 => ?_⟩
        obtain ⟨m, rfl⟩ := Int.eq_ofNat_of_zero_le g0
        have hm1 : m < found.length := by omega
        have hm2 : m + 1 < found.length := by omega
        have hl4 := sb4 _ _ npl.symm hl3
        have e1 : found[m]? = some found[m] := List.getElem?_eq_getElem hm1
        have e2 : found[m + 1]? = some found[m + 1] := List.getElem?_eq_getElem hm2
        have pm2 : ((found.set m found[m + 1]).set (m + 1) found[m]).Perm found := List.set_set_perm hm1 hm2
        generalize found[m] = za at e1 pm2
        generalize found[m + 1] = zb at e2 pm2
        have g1' : (found.map V.str)[m]? = some (.str za) := by
          rw [List.getElem?_map, e1]
          rfl
        have g2' : (found.map V.str)[m + 1]? = some (.str zb) := by
          rw [List.getElem?_map, e2]
          rfl
        have lf : (found.map V.str).length = found.length := List.length_map _
        refine ⟨_, rfl, _, rfl, _, _, rfl, rfl, l, _, _, _, rfl, rfl, lst_of hl4, (by rw [show ((m : Int) + 1) = ((m + 1 : Nat) : Int) from rfl]; exact atI_nat g2'), _, rfl, _, rfl, l, _, _, _, rfl, rfl, lst_of hl4, atI_nat g1', (by show 2 ≤ sizeLine; decide), fun q nq => ?_⟩
        have nlq : l ≠ q := ne_of_none hl4 nq
        have npq : p ≠ q := by
          obtain ⟨_, _, z, _⟩ := id pu4
          exact ne_of_none z nq
        refine ⟨q, _, rfl, tup_of upd_same, rfl, _, _, rfl, _, rfl, _, rfl, l, _, _, m, rfl, rfl, (by rw [upd_ne nlq]; exact hl4), ix_nat (by omega), ?_⟩
        refine ⟨_, _, rfl, _, rfl, _, rfl, _, _, rfl, rfl, l, _, _, m + 1, rfl, rfl, upd_same, ix_nat (j := m + 1) (by rw [List.length_set]; omega), rfl, ?_⟩
        have hB : SameB l H4 (upd (upd (upd H4 q (.tup [V.str zb, V.str za])) l (.lst ((found.map V.str).set m (V.str zb)))) l (.lst (((found.map V.str).set m (V.str zb)).set (m + 1) (V.str za)))) := (((SameB.refl l H4).new nq).put).put
        refine ⟨(found.set m zb).set (m + 1) za, _, _, rfl, ?_, pm2.trans pm, ?_, ?_, ?_⟩
        · rw [upd_same, swap_map]
        · exact fun b o nb e => hB b o (ne_of_none e nl) (sb4 b o nb (sb3 b o nb e))
        · obtain ⟨x, y, z, hh⟩ := pu4
          exact ⟨x, y, hB _ _ npl z, hh⟩
        · exact hB.sqt hl4 (pu3.sqt sb4 hT3)
      · rintro σ H3 ⟨found, v3, v4, rfl, hl3, pm, sb3, pu3, hT3⟩
        refine ⟨_, rfl, l, _, rfl, .inl ⟨lst_of hl3, fun u ou nu od => ?_⟩⟩
        exact k found u _ pm (sb3.new nu) (pu3.same (Same.new nu)) (frz_of upd_same)
theorem ok_l_made (T : Tx K mg) : FnOk P w K mg base CX0 8 T.a_l_made T.fd_l_made ["_law_purse_here", "_law_rank"] (spMade K T.C) := by
  refine T.F_l_made.ok sc_l_made (fun vs H Q E h => ?_) (fun cdv A outer s H vs Q E hr h => ?_)
  · obtain ⟨p, t, row, rfl, _⟩ := h
    rfl
  · obtain ⟨p, t, row, rfl, pu, hT, ro, k⟩ := h
    refine ⟨_, (pss_cons (ps_par (i := 2) (j := 3) rfl sc_l_made.nd rfl rfl (by decide) rfl rfl (pa_cons (pe_call (ok_l_draw T) (hr.mono (by decide)) rfl T.g_l_draw T.F_l_draw.kp T.b_l_draw .nil pass0 (pa_cons (pv 0) (pa_cons pe_int pa_nil))) (pa_cons (pe_join pe_str (pv 1)) pa_nil)) (by rfl))
      (pss_cons (ps_if (pt_cmpR op_lt (pv 2) pe_int (nomark _))
        (pss_one (ps_ret (pe_ifExp (pt_cmpR op_eq (pv 2) pe_int (nomark _)) (pe_make T.mkc (ok_RankingD_initD T) (hr.mono (by decide)) rfl T.g_Ranking T.b_RankingD_initD .nil pass0 (pa_cons (pv 1) pa_nil)) (pe_makeK0 T.mkc (ok_RankingD_initD T) (hr.mono (by decide)) rfl T.g_Ranking T.kb_RankingD_initD pass0 (pk_cons (pv 1) pk_nil)))))
        pss_nil)
      (pss_cons (ps_if (PW.pt (pw_or (pt_cmpR op_lt (pv 2) pe_int (nomark _)) (pw_or1 (pt_cmpR op_gt (pe_callB call_len_seq (by rfl) T.n_len (by decide +kernel) (pa_cons (pv 1) pa_nil)) pe_int (nomark _)))))
        (pss_one (ps_ret (pe_ifExp (pt_cmpR op_eq (pv 2) pe_int (nomark _)) (ClX.pe_cmeth (pe_glob (v := .ref T.C) rfl T.g_Ranking rfl) T.crd T.cm_Ranking_read (FnOk.toR (ok_Ranking_read T) T.b_Ranking_read) (hr.mono (by decide)) pass0 (pa_cons (pv 3) pa_nil)) (pe_cmethK (pe_glob (v := .ref T.C) rfl T.g_Ranking rfl) T.crd T.cm_Ranking_read (ok_Ranking_read T) (hr.mono (by decide)) T.kb_Ranking_read pass0 (pk_cons (pv 3) pk_nil)))))
        pss_nil)
      (pss_cons (ps_if (pt_cmpR op_lt (pe_callB call_len_seq (by rfl) T.n_len (by decide +kernel) (pa_cons (pv 1) pa_nil)) pe_int (nomark _))
        (pss_one (ps_ret (pe_ifExp (pt_cmpR op_eq (pe_callB call_len_seq (by rfl) T.n_len (by decide +kernel) (pa_cons (pv 1) pa_nil)) pe_int (nomark _)) (ClX.pe_cmeth (pe_glob (v := .ref T.C) rfl T.g_Ranking rfl) T.crd T.cm_Ranking_of (okR_Ranking_of T) (hr.mono (by decide)) pass0 (pa_cons (pe_ix ix_tup (pv 1) pe_int (fun _ _ => rfl)) pa_nil)) (ClX.pe_cmeth (pe_glob (v := .ref T.C) rfl T.g_Ranking rfl) T.crd T.cm_Ranking_of (okR_Ranking_of T) (hr.mono (by decide)) pass0 (pa_cons (pe_ix ix_tup (pv 1) pe_int (fun _ _ => rfl)) (pa_cons (pe_ix ix_tup (pv 1) pe_int (fun _ _ => rfl)) pa_nil))))))
        pss_nil)
      (pss_one (ps_ret (ClX.pe_cmeth (pe_glob (v := .ref T.C) rfl T.g_Ranking rfl) T.crd T.cm_Ranking_of (okR_Ranking_of T) (hr.mono (by decide)) pass0 (pa_cons (pe_ix ix_tup (pv 1) pe_int (fun _ _ => rfl)) (pa_cons (pe_ix ix_tup (pv 1) pe_int (fun _ _ => rfl)) (pa_cons (pe_ix ix_tup (pv 1) pe_int (fun _ _ => rfl)) pa_nil)))))))))), ?_⟩
    refine ⟨_, rfl, p, 6, rfl, pu, by decide, by decide, fun d H1 d0 d1 sb1 pu1 => ?_⟩
    have hT1 : SqT K H1 t (row.map V.str) := pu.sqt sb1 hT
    have lm : (row.map V.str).length = row.length := List.length_map _
    have fin : ∀ x' H', Same H1 H' → RkAt K T.C H' x' row → Q (.ref x') H' := fun x' H' s2 rk => k x' H' (sb1.trans (SameB.of s2)) (pu1.same s2) rk
    have mk : ∀ (x dx : Addr), H1 x = none → H1 dx = none → dx ≠ x → spInit K T.C [.ref x, .ref t] (upd (upd H1 dx (.own x)) x (.ins T.C dx [])) (fun v H2 => v = .non ∧ Q (.ref x) H2) E0 := fun x dx nx ndx ne => by
      refine ⟨x, dx, t, row, rfl, upd_same, ?_, ro, fun H3 s3 rk3 => ⟨rfl, ?_⟩⟩
      · refine Same.sqt (H := H1) ?_ hT1
        refine Same.new' (Same.new ndx) ?_
        rw [upd_ne ne.symm]
        exact nx
      · refine fin x H3 (fun b o e => ?_) rk3
        have nb : b ≠ x := ne_of_none e nx
        refine s3 b o nb ?_
        rw [upd_ne nb, upd_ne (ne_of_none e ndx)]
        exact e
    refine ⟨⟨_, rfl⟩, _, rfl, _, t, _, rfl, rfl, .inr hT1, join_le ro, _, _, rfl, ?_⟩
    refine ⟨_, rfl, _, _, rfl, rfl, _, rfl, ite2 (fun c1 => ?_) (fun c1 => ?_)⟩
    · refine ⟨_, rfl, rfl, _, rfl, ite2 (fun c2 => ?_) (fun c2 => ?_)⟩
      · exact ⟨_, rfl, mk⟩
      · exact ⟨_, rfl, rfl, rfl, mk⟩
    · have read : ∀ Q' : VK, (∀ x' H', Same H1 H' → RkAt K T.C H' x' row → Q' (.ref x') H') → spRead K T.C [.ref T.C, .str (Txt.join " " row)] H1 Q' E0 := fun Q' f => ⟨row, rfl, ro, f⟩
      refine ⟨_, rfl, _, _, rfl, rfl, _, rfl, ite2 (fun c2 => ?b1) (fun c2 => ⟨_, rfl, t, _, rfl, .inr hT1, _, _, rfl, rfl, _, rfl, ite2 (fun c3 => ?b2) (fun c3 => ?_)⟩)⟩
      case b1 =>
        refine ⟨_, rfl, rfl, _, rfl, ite2 (fun c4 => ?_) (fun c4 => ?_)⟩
        · exact ⟨rfl, _, rfl, row, rfl, ro, fin⟩
        · exact ⟨rfl, _, rfl, rfl, row, rfl, ro, fin⟩
      case b2 =>
        refine ⟨_, rfl, rfl, _, rfl, ite2 (fun c4 => ?_) (fun c4 => ?_)⟩
        · exact ⟨rfl, _, rfl, row, rfl, ro, fin⟩
        · exact ⟨rfl, _, rfl, rfl, row, rfl, ro, fin⟩
      have hl3 : row.length ≤ 3 := by
        have c3 : ¬ decide ((3 : Int) < ((row.map V.str).length : Nat)) = true := c3
        rw [decide_eq_true_eq] at c3
        omega
      rcases small_row ro.ne hl3 with ⟨a, rfl⟩ | ⟨a, b, rfl⟩ | ⟨a, b, c, rfl⟩
      · refine ⟨_, rfl, t, _, rfl, .inr hT1, _, _, rfl, rfl, _, rfl, ifT rfl ?_⟩
        refine ⟨_, rfl, t, _, rfl, .inr hT1, rfl, _, rfl, ifT rfl ?_⟩
        exact ⟨rfl, _, rfl, t, _, 0, _, rfl, rfl, hT1, atI_nat (j := 0) rfl, _, [.str a], rfl, by simp, fun q nq => ⟨q, [a], rfl, tup_of upd_same, ro, fun x' H' s rk => fin x' H' ((Same.new nq).trans s) rk⟩⟩
      · refine ⟨_, rfl, t, _, rfl, .inr hT1, _, _, rfl, rfl, _, rfl, ifT rfl ?_⟩
        refine ⟨_, rfl, t, _, rfl, .inr hT1, rfl, _, rfl, ifF rfl ?_⟩
        exact ⟨rfl, _, rfl, t, _, 0, _, rfl, rfl, hT1, atI_nat (j := 0) rfl, _, rfl, t, _, 1, _, rfl, rfl, hT1, atI_nat (j := 1) rfl, _, [.str a, .str b], rfl, by simp, fun q nq => ⟨q, [a, b], rfl, tup_of upd_same, ro, fun x' H' s rk => fin x' H' ((Same.new nq).trans s) rk⟩⟩
      · refine ⟨_, rfl, t, _, rfl, .inr hT1, _, _, rfl, rfl, _, rfl, ifF rfl ?_⟩
        exact ⟨rfl, _, rfl, t, _, 0, _, rfl, rfl, hT1, atI_nat (j := 0) rfl, _, rfl, t, _, 1, _, rfl, rfl, hT1, atI_nat (j := 1) rfl, _, rfl, t, _, 2, _, rfl, rfl, hT1, atI_nat (j := 2) rfl, _, [.str a, .str b, .str c], rfl, by simp, fun q nq => ⟨q, [a, b, c], rfl, tup_of upd_same, ro, fun x' H' s rk => fin x' H' ((Same.new nq).trans s) rk⟩⟩
end
end MH
namespace MH
open PySem PySem.Spec PyProof.Rows L2
theorem strOk_of {x : Str} (h : ∀ c ∈ TL.tl x, c < 0x110000) : PyData.strOk x = true := by
  unfold PyData.strOk
  rw [← Array.all_toList, List.all_eq_true]
  exact fun c hc => decide_eq_true (h c hc)
theorem lt_of_strOk {x : Str} (h : PyData.strOk x = true) : ∀ c ∈ TL.tl x, c < 0x110000 := by
  unfold PyData.strOk at h
  rw [← Array.all_toList, List.all_eq_true] at h
  exact fun c hc => of_decide_eq_true (h c hc)
theorem strOk_join {row : List Str} (h : ∀ z ∈ row, PyData.strOk z = true) : PyData.strOk (Txt.join " " row) = true := by
  refine strOk_of fun c hc => ?_
  rw [TL.join_eq, TL.tl_join] at hc
  have key : ∀ l : List (List Nat), (∀ p ∈ l, ∀ c ∈ p, c < 0x110000) → ∀ c ∈ TL.joinL (TL.tl " ") l, c < 0x110000 := fun l => by
    induction l with
    | nil => exact fun _ c hc => nomatch hc
    | cons p r ih =>
      intro hp c hc
      cases r with
      | nil => exact hp p List.mem_cons_self c hc
      | cons q r =>
        have hc : c ∈ p ++ (TL.tl " " ++ TL.joinL (TL.tl " ") (q :: r)) := hc
        rw [List.mem_append, List.mem_append] at hc
        rcases hc with hc | hc | hc
        · exact hp p List.mem_cons_self c hc
        · have : ∀ c ∈ TL.tl " ", c < 0x110000 := by decide +kernel
          exact this c hc
        · exact ih (fun p' hp' => hp p' (List.mem_cons_of_mem _ hp')) c hc
  refine key _ (fun p hp => ?_) c hc
  obtain ⟨z, hz, rfl⟩ := List.mem_map.mp hp
  exact lt_of_strOk (h z hz)
theorem strOk_app {x y : Str} (hx : PyData.strOk x = true) (hy : PyData.strOk y = true) : PyData.strOk (x ++ y) = true := by
  refine strOk_of fun c hc => ?_
  rw [TL.tl_append, List.mem_append] at hc
  rcases hc with hc | hc
  · exact lt_of_strOk hx c hc
  · exact lt_of_strOk hy c hc
/-- what the law holds of a ranking, as data -/
def facts (row ys : List Str) : PyData := .list [.tuple (row.map .str), .tuple (ys.map .str), .int (row.length : Nat), .bool true, .str (Txt.join " " row), .str ("Ranking " ++ Txt.join " " row)]
theorem facts_show {K : PySem.W.Frag} {H : Hp} {L a b : Addr} {row ys : List Str} (ro : RowOk row) (pm : ys.Perm row) (hL : SqL K H L [.ref a, .ref b, .int (row.length : Nat), .bl true, .str (Txt.join " " row), .str ("Ranking " ++ Txt.join " " row)])
    (ha : SqT K H a (row.map V.str)) (hb : SqT K H b (ys.map V.str)) : ShowOk K H L (facts row ys) := by
  have ok1 : ∀ z ∈ row, PyData.strOk z = true := fun z hz => nameOk_str (ro.ok z hz)
  have ok2 : ∀ z ∈ ys, PyData.strOk z = true := fun z hz => ok1 z (pm.subset hz)
  have j1 := strOk_join ok1
  have j2 : PyData.strOk ("Ranking " ++ Txt.join " " row) = true := strOk_app (by decide +kernel) j1
  have jl := joined_len ro
  have jl2 : ("Ranking " ++ Txt.join " " row).length = 8 + (Txt.join " " row).length := by
    rw [PySem.strLen_append]
    rfl
  have rl := ro.le
  refine show_of (.lst hL (.cons (.tup ha (dp_strs row)) (.cons (.tup hb (dp_strs ys)) (.cons (.int _) (.cons (.bl _) (.cons (.str _) (.cons (.str _) .nil))))))) ?_ ?_ ?_
  · show (okDs (row.map PyData.str) && (okDs (ys.map PyData.str) && (decide (((row.length : Nat) : Int).natAbs < 10 ^ 100) && (true && (PyData.strOk (Txt.join " " row) && (PyData.strOk ("Ranking " ++ Txt.join " " row) && true)))))) = true
    rw [okDs_strs ok1, okDs_strs ok2, j1, j2]
    have : (((row.length : Nat) : Int).natAbs < 10 ^ 100) := by
      rw [Int.natAbs_natCast]
      exact Nat.lt_of_le_of_lt rl (by decide +kernel)
    rw [decide_eq_true this]
    rfl
  · unfold facts
    simp only [PyData.depth, PyData.depthAll, depth_strs]
    decide
  · have c1 := costAll_strs (n := 8) fun z hz => nameOk_len (ro.ok z hz)
    have c2 := costAll_strs (n := 8) (ss := ys) fun z hz => nameOk_len (ro.ok z (pm.subset hz))
    have yl := pm.length_eq
    show costAll (row.map PyData.str) + 3 + 2 + (costAll (ys.map PyData.str) + 3 + 2 + (101 + 2 + (5 + 2 + (10 * (Txt.join " " row).length + 2 + 2 + (10 * ("Ranking " ++ Txt.join " " row).length + 2 + 2 + 0))))) + 3 ≤ 100000
    omega
def spShown (K : PySem.W.Frag) (C : Addr) : Sp := fun vs H Q _ => ∃ (x t : Addr) (row : List Str), vs = [.ref x, .ref t] ∧ RkAt K C H x row ∧ SqT K H t (row.map V.str) ∧ ∀ H', Same H H' → Q (.bl true) H'
section
variable {P : Program} {w : World} {K : PySem.W.Frag} {mg : Str → Option Value} {base : Heap}
theorem g_l_shown (T : Tx K mg) : FnG P w K mg base 6 T.a_l_shown (spShown K T.C) := by
  refine fun_g T.F_l_shown sc_l_shown T.b_l_shown (fun vs H Q E h => ?_) (fun cdv A outer s H vs Q hg hr h => ?_)
  · obtain ⟨x, t, row, rfl, _⟩ := h
    rfl
  · obtain ⟨x, t, row, rfl, rk, hT, k⟩ := h
    refine ⟨_, (pss_cons (ps_set (i := 2) sc_l_shown.nd rfl (Or.inl rfl) (pe_join pe_str (pv 1)))
      (pss_cons (ps_set (i := 3) sc_l_shown.nd rfl (Or.inl rfl) (pe_lst (pa_cons (pv 1) (pa_cons (pe_callTy call_tupF (by rfl) T.n_tuple (by decide +kernel) (pa_cons (pe_callB cr_sortedU (by rfl) T.n_sorted (by decide +kernel) (pa_cons (pv 1) pa_nil)) pa_nil)) (pa_cons (pe_callB call_len_seq (by rfl) T.n_len (by decide +kernel) (pa_cons (pv 1) pa_nil)) (pa_cons pe_bl (pa_cons (pv 2) (pa_cons (pe_op op_add_str pe_str (pv 2)) pa_nil))))))))
      (pss_cons (ps_set (i := 4) sc_l_shown.nd rfl (Or.inl rfl) (pe_lst (pa_cons (pe_prop (pv 0) T.cl T.p_row (ok_Ranking_row T) (hr.mono (by decide)) T.b_Ranking_row .nil pass0 (by rfl)) (pa_cons (pe_prop (pv 0) T.cl T.p_things (ok_Ranking_things T) (hr.mono (by decide)) T.b_Ranking_things .nil pass0 (by rfl)) (pa_cons (pe_callB (call_lenO T.m_RankingD_lenD (ok_RankingD_lenD T) (hr.mono (by decide)) T.b_RankingD_lenD pass0) (by rfl) T.n_len (by decide +kernel) (pa_cons (pv 0) pa_nil)) (pa_cons (pe_callTy (call_boolO T.m_RankingD_lenD T.nobool (ok_RankingD_lenD T) (hr.mono (by decide)) T.b_RankingD_lenD pass0) (by rfl) T.n_bool (by decide +kernel) (pa_cons (pv 0) pa_nil)) (pa_cons (pe_callTy (call_strO T.m_RankingD_strD (ok_RankingD_strD T) (hr.mono (by decide)) T.b_RankingD_strD pass0) (by rfl) T.n_str (by decide +kernel) (pa_cons (pv 0) pa_nil)) (pa_cons (pe_callB (call_reprO T.m_RankingD_reprD (ok_RankingD_reprD T) (hr.mono (by decide)) T.b_RankingD_reprD pass0) (by rfl) T.n_repr (by decide +kernel) (pa_cons (pv 0) pa_nil)) pa_nil))))))))
      (pss_one (ps_ret (pe_and (pe_cmpR op_eq (pe_callB (call_reprD hg hr.units) (by rfl) T.n_repr (by decide +kernel) (pa_cons (pv 4) pa_nil)) (pe_callB (call_reprD hg hr.units) (by rfl) T.n_repr (by decide +kernel) (pa_cons (pv 3) pa_nil)) (nomark _)) (pe_one (pe_cmpR (op_eqD hr.units) (pe_lc (own := [("_law_k", 5)]) (g := gName 5) (tt := tYes) rfl sc_l_shown.nd (pi_range1 (by rfl) T.n_range (pa_cons (pe_callB call_len_seq (by rfl) T.n_len (by decide +kernel) (pa_cons (pv 1) pa_nil)) pa_nil)) (blkOk_by (own := [("_law_k", 5)]) (N := names_l_shown) (sc := defScope st_l_shown) (by decide +kernel)) (fun _ _ _ _ _ => pg_name (i := 5) sc_l_shown.nd rfl (Or.inl rfl)) (fun _ _ _ _ _ => pts_nil) (fun _ _ _ _ _ => (pe_itO T.m_RankingD_getitemD T.fi_RankingD_getitemD (ok_RankingD_getitemD T) (hr.mono (by decide)) T.b_RankingD_getitemD pass0 (pv 0) (pv 5) (fun _ _ => rfl)))) (pe_callTy call_list_of (by rfl) T.n_list (by decide +kernel) (pa_cons (pv 1) pa_nil)) (nomark _))))))))), ?_⟩
    have ro := rk.ok
    have rl := ro.le
    have h0 : 0 < row.length := List.length_pos_iff.mpr ro.ne
    have lm : (row.map V.str).length = row.length := List.length_map _
    have jl := joined_len ro
    refine ⟨⟨_, rfl⟩, _, rfl, _, t, _, rfl, rfl, .inr hT, join_le ro, ?_⟩
    refine ⟨_, rfl, _, rfl, t, row, rfl, hT, by omega, fun ys q pm so nq => ⟨q, _, rfl, .inl ⟨lst_of upd_same, fun u ou nu od => ?_⟩⟩⟩
    have s1 := (Same.new nq (o := .lst (ys.map V.str))).new' nu (o := .frz ou (.tup (ys.map V.str)))
    have hu : SqT K (upd (upd H q (.lst (ys.map V.str))) u (.frz ou (.tup (ys.map V.str)))) u (ys.map V.str) := frz_of upd_same
    generalize upd (upd H q (.lst (ys.map V.str))) u (.frz ou (.tup (ys.map V.str))) = H1 at s1 hu ⊢
    refine ⟨_, rfl, t, _, rfl, .inr (s1.sqt hT), _, rfl, _, rfl, _, _, rfl, rfl, ?_, (by show 6 ≤ sizeLine; decide), fun L nL => ?_⟩
    · show 8 + (Txt.join " " row).length ≤ _
      exact le_line (by omega)
    rw [lm]
    have s2 := s1.new' nL (o := .lst [.ref t, .ref u, .int (row.length : Nat), .bl true, .str (Txt.join " " row), .str ("Ranking " ++ Txt.join " " row)])
    have hu2 := (Same.new nL (o := .lst [.ref t, .ref u, .int (row.length : Nat), .bl true, .str (Txt.join " " row), .str ("Ranking " ++ Txt.join " " row)])).sqt hu
    have hL : (upd H1 L (.lst [.ref t, .ref u, .int (row.length : Nat), .bl true, .str (Txt.join " " row), .str ("Ranking " ++ Txt.join " " row)])) L = some (.lst [.ref t, .ref u, .int (row.length : Nat), .bl true, .str (Txt.join " " row), .str ("Ranking " ++ Txt.join " " row)]) := upd_same
    generalize upd H1 L (.lst [.ref t, .ref u, .int (row.length : Nat), .bl true, .str (Txt.join " " row), .str ("Ranking " ++ Txt.join " " row)]) = H2 at s2 hu2 hL ⊢
    have rk2 := rk.same s2
    obtain ⟨dx, t2, ts2, th2, hx, _⟩ := id rk2
    refine ⟨_, rfl, x, dx, _, rfl, hx, x, row, rfl, rk2, fun ta hta => ⟨_, rfl, x, dx, _, rfl, hx, x, row, rfl, rk2, fun tb th htb pmb sob => ?_⟩⟩
    refine ⟨_, rfl, x, dx, _, rfl, hx, x, row, rfl, rk2, ⟨_, rfl, by omega, by omega⟩, _, rfl, x, dx, _, rfl, hx, x, row, rfl, rk2, _, rfl, by omega, by omega, ?_⟩
    refine ⟨_, rfl, x, dx, _, rfl, hx, x, row, rfl, rk2, ⟨_, rfl⟩, _, rfl, x, dx, _, rfl, hx, x, row, rfl, rk2, ⟨_, rfl⟩, (by show 6 ≤ sizeLine; decide), fun M nM => ?_⟩
    have eb : (((row.length : Nat) : Int) != 0) = true := by
      rw [bne_iff_ne]
      omega
    rw [eb]
    obtain rfl : th = ys := sorted_one (pmb.trans pm.symm) sob so
    have s3 := s2.new' nM (o := .lst [.ref ta, .ref tb, .int (row.length : Nat), .bl true, .str (Txt.join " " row), .str ("Ranking " ++ Txt.join " " row)])
    have s23 := Same.new nM (o := .lst [.ref ta, .ref tb, .int (row.length : Nat), .bl true, .str (Txt.join " " row), .str ("Ranking " ++ Txt.join " " row)])
    obtain ⟨a1, a2, a3, a4, a5⟩ := facts_show (K := K) ro pm (lst_of (upd_same (H := H2) (a := M))) (s23.sqt hta) (s23.sqt htb)
    obtain ⟨b1, b2, b3, b4, b5⟩ := facts_show (K := K) ro pm (lst_of (s23 _ _ hL)) (s23.sqt (s2.sqt hT)) (s23.sqt hu2)
    refine ⟨_, rfl, M, _, rfl, a1, a2, a3, a4, a5, _, rfl, L, _, rfl, b1, b2, b3, b4, b5, rfl, _, rfl, ifT (by simp) ?_⟩
    have rk3 := rk.same s3
    generalize upd H2 M (.lst [.ref ta, .ref tb, .int (row.length : Nat), .bl true, .str (Txt.join " " row), .str ("Ranking " ++ Txt.join " " row)]) = H3 at s3 rk3 ⊢
    refine ⟨_, rfl, t, _, rfl, .inr (s3.sqt hT), _, rfl, by omega, by omega, fun D nD => lc_range (lo := 0) (n := _) (fun i H' => Same H3 H' ∧ H' D = some (.lst ((row.take i).map V.str))) ⟨Same.new nD, upd_same⟩ ?_ ?_⟩
    · rintro i H4 hi ⟨s4, e4⟩
      have hi : i < row.length := by omega
      rw [show (0 : Int) + (i : Int) = ((i : Nat) : Int) from Int.zero_add _]
      have hz : row[i]? = some row[i] := List.getElem?_eq_getElem hi
      have rk4 := rk3.same s4
      obtain ⟨dx4, t4, ts4, th4, hx4, _⟩ := id rk4
      refine ⟨rfl, _, rfl, _, rfl, x, dx4, _, rfl, hx4, x, row, _, i, rfl, rk4, hz, _, e4, lt_line ?_, fun b o e => ?_, ?_⟩
      · rw [List.length_map, List.length_take]
        omega
      · rw [upd_ne (ne_of_none e nD)]
        exact s4 _ _ e
      · rw [upd_same, List.take_add_one, hz, List.map_append]
        rfl
    · rintro H4 ⟨s4, e4⟩
      have e4' : H4 D = some (.lst (row.map V.str)) := by
        rw [e4, List.take_of_length_le (by omega)]
      refine ⟨_, rfl, t, _, rfl, .inr (s4.sqt (s3.sqt hT)), fun l nl => ?_⟩
      refine ⟨.list (row.map .str), .list (row.map .str), .lst (lst_of ((Same.new nl) _ _ e4')) (dp_strs _), .lst (lst_of upd_same) (dp_strs _), shaped_strsL ro.ok, shaped_strsL ro.ok, ?_⟩
      rw [eqv_strsL]
      rw [decide_eq_true (rfl : row = row)]
      exact k _ ((s3.trans s4).new' nl)
end
end MH
namespace MH
open PySem PySem.Spec PyProof.Rows L2
/-- at these places stand things of R -/
inductive AllP (R : Addr → List Str → Prop) : List Addr → List (List Str) → Prop
  | nil : AllP R [] []
  | cons {a : Addr} {c : List Str} {as : List Addr} {cs : List (List Str)} : R a c → AllP R as cs → AllP R (a :: as) (c :: cs)
theorem AllP.imp {R R' : Addr → List Str → Prop} (f : ∀ a xs, R a xs → R' a xs) : ∀ {as : List Addr} {cs : List (List Str)}, AllP R as cs → AllP R' as cs
  | _, _, .nil => .nil
  | _, _, .cons h t => .cons (f _ _ h) (t.imp f)
theorem AllP.snoc {R : Addr → List Str → Prop} {b : Addr} {d : List Str} (q : R b d) : ∀ {as : List Addr} {cs : List (List Str)}, AllP R as cs → AllP R (as ++ [b]) (cs ++ [d])
  | _, _, .nil => .cons q .nil
  | _, _, .cons h t => .cons h (t.snoc q)
theorem AllP.len {R : Addr → List Str → Prop} : ∀ {as : List Addr} {cs : List (List Str)}, AllP R as cs → as.length = cs.length
  | _, _, .nil => rfl
  | _, _, .cons _ t => congrArg Nat.succ t.len
theorem AllP.get {R : Addr → List Str → Prop} : ∀ {as : List Addr} {cs : List (List Str)} {i : Nat} {a : Addr}, AllP R as cs → as[i]? = some a → ∃ c, cs[i]? = some c ∧ R a c
  | _, _, i, a, .nil, e => by simp at e
  | _, _, 0, a, .cons h t, e => by
    obtain rfl := Option.some.inj e
    exact ⟨_, rfl, h⟩
  | _, _, i + 1, a, .cons h t, e => t.get (i := i) e
theorem ref_at {as : List Addr} {i : Nat} {y : V} (h : (as.map V.ref)[i]? = some y) : ∃ a, as[i]? = some a ∧ y = V.ref a := by
  rw [List.getElem?_map] at h
  cases e : as[i]? with
  | none =>
    rw [e] at h
    cases h
  | some a =>
    rw [e] at h
    exact ⟨a, rfl, (Option.some.inj h).symm⟩
/-- what stands when all is made -/
structure Scene (K : PySem.W.Frag) (C : Addr) (H : Hp) (a : Addr) (ss : List Str) (R : Addr) (as : List Addr) (D : Addr) (xs : List Addr) (cs : List (List Str)) : Prop where
  hA : SqT K H a (ss.map V.str)
  hR : H R = some (.lst (as.map V.ref))
  rows : AllP (fun t c => SqT K H t (c.map V.str)) as cs
  hD : H D = some (.lst (xs.map V.ref))
  made : AllP (RkAt K C H) xs cs
  five : cs.length = 5
  ok : ∀ c ∈ cs, RowOk c
  hss : ∀ z ∈ ss, nameOk z = true
  lss : ss.length ≤ 10
theorem Scene.same {K : PySem.W.Frag} {C : Addr} {H H' : Hp} {a : Addr} {ss : List Str} {R : Addr} {as : List Addr} {D : Addr} {xs : List Addr} {cs : List (List Str)} (h : Scene K C H a ss R as D xs cs) (s : Same H H') : Scene K C H' a ss R as D xs cs where
  hA := s.sqt h.hA
  hR := s _ _ h.hR
  rows := h.rows.imp fun _ _ q => s.sqt q
  hD := s _ _ h.hD
  made := h.made.imp fun _ _ q => q.same s
  five := h.five
  ok := h.ok
  hss := h.hss
  lss := h.lss
theorem bools_show {K : PySem.W.Frag} {H : Hp} {L : Addr} {bs : List Bool} (hL : SqL K H L (bs.map V.bl)) (hz : bs.length ≤ 100) : ShowOk K H L (.list (bs.map PyData.bool)) := by
  have h1 : okDs (bs.map PyData.bool) = true := by
    induction bs with
    | nil => rfl
    | cons b r ih =>
      show (true && okDs (r.map PyData.bool)) = true
      rw [Bool.true_and]
      exact (by
        clear hL hz ih
        induction r with
        | nil => rfl
        | cons b r ih => exact ih)
  have h2 : costAll (bs.map PyData.bool) = bs.length * 7 := by
    clear hL hz h1
    induction bs with
    | nil => rfl
    | cons b r ih =>
      show 5 + 2 + costAll (r.map PyData.bool) = (r.length + 1) * 7
      omega
  have h3 : PyData.depthAll (bs.map PyData.bool) = 0 := by
    clear hL hz h1 h2
    induction bs with
    | nil => rw [List.map_nil, PyData.depthAll]
    | cons b r ih => rw [List.map_cons, PyData.depthAll, ih, PyData.depth]; rfl
  have h4 : ∀ l : List Bool, DpAll K H (l.map V.bl) (l.map PyData.bool) := fun l => by
    induction l with
    | nil => exact .nil
    | cons b r ih => exact .cons (.bl b) ih
  refine show_of (.lst hL (h4 bs)) h1 ?_ ?_
  · simp only [PyData.depth, h3]
    decide
  · show costAll (bs.map PyData.bool) + 3 ≤ 100000
    omega
theorem tyx_same {K : PySem.W.Frag} {H H' : Hp} {v : V} {t : Value} (h : TyX K H v t) (s : Same H H') : TyX K H' v t := by
  cases h with
  | base b =>
    cases b with
    | non => exact .base .non
    | bl x => exact .base (.bl x)
    | int i => exact .base (.int i)
    | str x => exact .base (.str x)
    | flt x => exact .base (.flt x)
    | lst e => exact .base (.lst (s _ _ e))
    | frz e => exact .base (.frz (s _ _ e))
    | tup e => exact .base (.tup (s _ _ e))
    | dK e => exact .base (.dK (s _ _ e))
    | dT e => exact .base (.dT (s _ _ e))
    | ins e c h1 h2 h3 h4 => exact .base (.ins (s _ _ e) c h1 h2 h3 h4)
  | byt b => exact .byt b
  | set e => exact .set (s _ _ e)
  | kList e c => exact .kList e c
  | kTuple e c => exact .kTuple e c
  | kDict e c => exact .kDict e c
  | fTuple e => exact .fTuple (s _ _ e)
  | fDict e => exact .fDict (s _ _ e)
/-- a value of another kind -/
def Odd (K : PySem.W.Frag) (C : Addr) (H : Hp) (y : V) : Prop := ∃ N : String, TyX K H y (.type N) ∧ PySem.W.subIn K (.type N) (.ref C) = some false
def spRight (K : PySem.W.Frag) : Sp := fun vs H Q _ => ∃ p, vs = [.ref p] ∧ Pu H p ∧ ∀ H', SameB p H H' → Q (.bl true) H'
section
variable {P : Program} {w : World} {K : PySem.W.Frag} {mg : Str → Option Value} {base : Heap}
theorem g_l_right (T : Tx K mg) : FnG P w K mg base 9 T.a_l_right (spRight K) := by
  refine fun_g T.F_l_right sc_l_right T.b_l_right (fun vs H Q E h => ?_) (fun cdv A outer s H vs Q hg hr h => ?_)
  · obtain ⟨p, rfl, _⟩ := h
    rfl
  · obtain ⟨p, rfl, pu, k⟩ := h
    refine ⟨_, (pss_cons (ps_set (i := 1) sc_l_right.nd rfl (Or.inl rfl) (pe_call (ok_l_things T) (hr.mono (by decide)) rfl T.g_l_things T.F_l_things.kp T.b_l_things .nil pass0 (pa_cons (pv 0) (pa_cons (pe_op op_add pe_int (pe_call (ok_l_draw T) (hr.mono (by decide)) rfl T.g_l_draw T.F_l_draw.kp T.b_l_draw .nil pass0 (pa_cons (pv 0) (pa_cons pe_int pa_nil)))) pa_nil))))
      (pss_cons (ps_set (i := 2) sc_l_right.nd rfl (Or.inr rfl) (pe_lst (pa_cons (pe_call (ok_l_order T) (hr.mono (by decide)) rfl T.g_l_order T.F_l_order.kp T.b_l_order .nil pass0 (pa_cons (pv 0) (pa_cons (pv 1) pa_nil))) (pa_cons (pe_call (ok_l_order T) (hr.mono (by decide)) rfl T.g_l_order T.F_l_order.kp T.b_l_order .nil pass0 (pa_cons (pv 0) (pa_cons (pv 1) pa_nil))) (pa_cons (pe_call (ok_l_order T) (hr.mono (by decide)) rfl T.g_l_order T.F_l_order.kp T.b_l_order .nil pass0 (pa_cons (pv 0) (pa_cons (pe_slice sl_tupA (pv 1) po_none (po_some pe_int)) pa_nil))) pa_nil)))))
      (pss_cons (ps_set (i := 2) sc_l_right.nd rfl (Or.inr rfl) (pe_op op_cat (pv 2) (pe_lst (pa_cons (pe_call (ok_l_near T) (hr.mono (by decide)) rfl T.g_l_near T.F_l_near.kp T.b_l_near .nil pass0 (pa_cons (pv 0) (pa_cons (pe_ix ix_list (pv 2) pe_int (fun _ _ => rfl)) pa_nil))) (pa_cons (pe_ix ix_list (pv 2) pe_int (fun _ _ => rfl)) pa_nil)))))
      (pss_cons (ps_set (i := 4) sc_l_right.nd rfl (Or.inr rfl) (pe_lc (own := [("_law_rank", 3)]) (g := gName 3) (tt := tYes) rfl sc_l_right.nd (pi_list (pv 2)) (blkOk_by (own := [("_law_rank", 3)]) (N := names_l_right) (sc := defScope st_l_right) (by decide +kernel)) (fun _ _ _ _ _ => pg_name (i := 3) sc_l_right.nd rfl (Or.inl rfl)) (fun _ _ _ _ _ => pts_nil) (fun _ _ _ _ _ => (pe_call (ok_l_made T) (hr.mono (by decide)) rfl T.g_l_made T.F_l_made.kp T.b_l_made .nil pass0 (pa_cons (pv 0) (pa_cons (pv 3) pa_nil))))))
      (pss_cons (ps_for PassesOwn.never rfl (pi_range1 (by rfl) T.n_range (pa_cons pe_int pa_nil)) (pg_name (i := 5) sc_l_right.nd rfl (Or.inl rfl))
        (pss_cons (ps_if (pt_cmpR (op_neD hr.units) (pe_lc (own := [("_law_k", 8)]) (g := gName 8) (tt := _) rfl sc_l_right.nd (pi_range1 (by rfl) T.n_range (pa_cons pe_int pa_nil)) (blkOk_by (own := [("_law_k", 8)]) (N := names_l_right) (sc := defScope st_l_right) (by decide +kernel)) (fun _ _ _ _ _ => pg_name (i := 8) sc_l_right.nd rfl (Or.inl rfl)) (fun _ _ _ _ _ => pts_one (pt_not (pt_val (pe_callg (g_l_shown T) hg (hr.mono (by decide)) rfl T.g_l_shown T.F_l_shown.kp (pa_cons (pe_ix (r := rIxL K) ix_list (pv 4) (pv 8) (fun _ _ => rfl)) (pa_cons (pe_ix (r := rIxL K) ix_list (pv 2) (pv 8) (fun _ _ => rfl)) pa_nil)))))) (fun _ _ _ _ _ => (pv 8))) (pe_lst pa_nil) (nomark _))
        (pss_one (ps_ret pe_bl))
        pss_nil)
      (pss_one (ps_for PassesOwn.never rfl (RZ.pi_zipA (by rfl) T.n_zip (pa_cons (pv 4) (pa_cons (pv 2) pa_nil))) (pg_tup rfl (pgs_cons (pg_name (i := 6) sc_l_right.nd rfl (Or.inr rfl)) (pgs_cons (pg_name (i := 3) sc_l_right.nd rfl (Or.inr rfl)) pgs_nil)))
        (pss_cons (ps_if (pt_cmpR op_ne (pe_callB (call_reprD hg hr.units) (by rfl) T.n_repr (by decide +kernel) (pa_cons (pe_lc (own := [("_law_mate", 9)]) (g := gName 9) (tt := tYes) rfl sc_l_right.nd (pi_list (pv 4)) (blkOk_by (own := [("_law_mate", 9)]) (N := names_l_right) (sc := defScope st_l_right) (by decide +kernel)) (fun _ _ _ _ _ => pg_name (i := 9) sc_l_right.nd rfl (Or.inl rfl)) (fun _ _ _ _ _ => pts_nil) (fun _ _ _ _ _ => (pe_cmpR (op_eqO T.m_RankingD_eqD (ok_RankingD_eqD T) (hr.mono (by decide)) T.b_RankingD_eqD pass0) (pv 6) (pv 9) (nomark _)))) pa_nil)) (pe_callB (call_reprD hg hr.units) (by rfl) T.n_repr (by decide +kernel) (pa_cons (pe_lc (own := [("_law_other", 10)]) (g := gName 10) (tt := tYes) rfl sc_l_right.nd (pi_list (pv 2)) (blkOk_by (own := [("_law_other", 10)]) (N := names_l_right) (sc := defScope st_l_right) (by decide +kernel)) (fun _ _ _ _ _ => pg_name (i := 10) sc_l_right.nd rfl (Or.inl rfl)) (fun _ _ _ _ _ => pts_nil) (fun _ _ _ _ _ => (pe_cmpR (r := rEqD K) (op_eqD hr.units) (pv 3) (pv 10) (nomark _)))) pa_nil)) (nomark _))
        (pss_one (ps_ret pe_bl))
        pss_nil)
      (pss_cons (ps_if (pt_cmpR op_ne (pe_callB (call_reprD hg hr.units) (by rfl) T.n_repr (by decide +kernel) (pa_cons (pe_lc (own := [("_law_mate", 9)]) (g := gName 9) (tt := tYes) rfl sc_l_right.nd (pi_list (pv 4)) (blkOk_by (own := [("_law_mate", 9)]) (N := names_l_right) (sc := defScope st_l_right) (by decide +kernel)) (fun _ _ _ _ _ => pg_name (i := 9) sc_l_right.nd rfl (Or.inl rfl)) (fun _ _ _ _ _ => pts_nil) (fun _ _ _ _ _ => (pe_cmpR (op_neO T.m_RankingD_eqD T.ne T.ob (ok_RankingD_eqD T) (hr.mono (by decide)) T.b_RankingD_eqD pass0) (pv 6) (pv 9) (nomark _)))) pa_nil)) (pe_callB (call_reprD hg hr.units) (by rfl) T.n_repr (by decide +kernel) (pa_cons (pe_lc (own := [("_law_other", 10)]) (g := gName 10) (tt := tYes) rfl sc_l_right.nd (pi_list (pv 2)) (blkOk_by (own := [("_law_other", 10)]) (N := names_l_right) (sc := defScope st_l_right) (by decide +kernel)) (fun _ _ _ _ _ => pg_name (i := 10) sc_l_right.nd rfl (Or.inl rfl)) (fun _ _ _ _ _ => pts_nil) (fun _ _ _ _ _ => (pe_cmpR (r := rNeD K) (op_neD hr.units) (pv 3) (pv 10) (nomark _)))) pa_nil)) (nomark _))
        (pss_one (ps_ret pe_bl))
        pss_nil)
      (pss_cons (ps_for PassesOwn.never rfl (pi_list (pe_lst (pa_cons pe_non (pa_cons pe_int (pa_cons pe_bl (pa_cons (pv 3) (pa_cons (pe_callTy call_list_of (by rfl) T.n_list (by decide +kernel) (pa_cons (pv 3) pa_nil)) (pa_cons (pe_callTy (call_strO T.m_RankingD_strD (ok_RankingD_strD T) (hr.mono (by decide)) T.b_RankingD_strD pass0) (by rfl) T.n_str (by decide +kernel) (pa_cons (pv 6) pa_nil)) (pa_cons (pe_callB (call_reprO T.m_RankingD_reprD (ok_RankingD_reprD T) (hr.mono (by decide)) T.b_RankingD_reprD pass0) (by rfl) T.n_repr (by decide +kernel) (pa_cons (pv 6) pa_nil)) (pa_cons (pe_lst (pa_cons (pv 6) pa_nil)) (pa_cons pe_dnewK pa_nil))))))))))) (pg_name (i := 7) sc_l_right.nd rfl (Or.inl rfl))
        (pss_one (ps_if (PW.pt (pw_or (pt_cmpR (op_eqX T.m_RankingD_eqD (okX_RankingD_eqD T) (hr.mono (by decide)) T.b_RankingD_eqD pass0) (pv 6) (pv 7) (nomark _)) (pw_or1 (pt_not (pt_cmpR (op_neX T.m_RankingD_eqD T.ne T.ob (okX_RankingD_eqD T) (hr.mono (by decide)) T.b_RankingD_eqD pass0) (pv 6) (pv 7) (nomark _))))))
        (pss_one (ps_ret pe_bl))
        pss_nil)))
      (pss_one (ps_for PassesOwn.never rfl (pi_list (pe_op op_cat (pe_callTy call_list_of (by rfl) T.n_list (by decide +kernel) (pa_cons (pv 1) pa_nil)) (pe_lst (pa_cons pe_str (pa_cons pe_str (pa_cons pe_int (pa_cons pe_non (pa_cons pe_bl (pa_cons (pv 3) (pa_cons (pe_lst pa_nil) (pa_cons pe_dnewK (pa_cons (pe_op op_add_str (pe_ix ix_tup (pv 3) pe_int (fun _ _ => rfl)) pe_str) (pa_cons pe_str pa_nil))))))))))))) (pg_name (i := 7) sc_l_right.nd rfl (Or.inl rfl))
        (pss_one (ps_if (pt_cmpR op_ne (pe_callB call_reprB (by rfl) T.n_repr (by decide +kernel) (pa_cons (pe_cmpR (op_inO T.m_RankingD_containsD (ok_RankingD_containsD T) (hr.mono (by decide)) T.b_RankingD_containsD pass0) (pv 7) (pv 6) (by rfl)) pa_nil)) (pe_callB call_reprB (by rfl) T.n_repr (by decide +kernel) (pa_cons (pe_and (pe_callB call_isi (by rfl) T.n_isinstance (by decide +kernel) (pa_cons (pv 7) (pa_cons (pe_bltn (v := .ty "str") (by rfl) T.n_str (by decide +kernel) rfl) pa_nil))) (pe_one (pe_cmpR op_in_seq (pv 7) (pv 3) (by rfl)))) pa_nil)) (nomark _))
        (pss_one (ps_ret pe_bl))
        pss_nil)))))))))))
      (pss_one (ps_ret pe_bl))))))), ?_⟩
    refine ⟨_, rfl, _, rfl, p, 10, rfl, pu, by decide, by decide, fun d H1 d0 d1 sb1 pu1 => ⟨_, _, rfl, rfl, p, _, rfl, pu1, by omega, by omega, fun ss a H2 nd so mem len sb2 pu2 hA => ?_⟩⟩
    have lss : ss.length ≤ 10 := by omega
    have lss0 : 0 < ss.length := by omega
    have okp : ∀ z ∈ ss, nameOk z = true := fun z hz => pool_ok z (mem z hz)
    have row_of : ∀ r l : List Str, r.Perm l → (∀ z ∈ l, z ∈ ss) → l.Nodup → 0 < l.length → l.length ≤ 10 → RowOk r := fun r l pm hl hn h0 h10 => {
      ne := fun e => by
        have := pm.length_eq
        rw [e] at this
        simp only [List.length_nil] at this
        omega
      le := by rw [pm.length_eq]; exact h10
      nd := pm.nodup_iff.mpr hn
      ok := fun z hz => okp z (hl z (pm.subset hz)) }
    refine ⟨_, rfl, _, rfl, p, a, ss, rfl, pu2, hA, by omega, fun r1 t1 H3 pm1 sb3 pu3 hr1 => ?_⟩
    have hA3 : SqT K H3 a (ss.map V.str) := pu2.sqt sb3 hA
    refine ⟨_, rfl, _, rfl, p, a, ss, rfl, pu3, hA3, by omega, fun r2 t2 H4 pm2 sb4 pu4 hr2 => ?_⟩
    have hA4 : SqT K H4 a (ss.map V.str) := pu3.sqt sb4 hA3
    refine ⟨_, rfl, _, rfl, ((2 : Nat) : Int), rfl, slA_of hA4 fun q H5 s5 hq => ?_⟩
    rw [cut_upto, ← List.map_take] at hq
    have pu5 := pu4.same s5
    refine ⟨p, q, ss.take 2, rfl, pu5, hq, by rw [List.length_take]; omega, fun r3 t3 H6 pm3 sb6 pu6 hr3 => ?_⟩
    refine ⟨(by show 3 ≤ sizeLine; decide), fun R0 nR0 => ?_⟩
    have np0 : R0 ≠ p := fun e => by
      obtain ⟨_, _, q, _⟩ := id pu6
      rw [← e, nR0] at q
      cases q
    have ro1 := row_of r1 ss pm1 (fun _ h => h) nd lss0 lss
    have ro2 := row_of r2 ss pm2 (fun _ h => h) nd lss0 lss
    have ro3 := row_of r3 (ss.take 2) pm3 (fun _ h => List.mem_of_mem_take h) (nd.sublist (List.take_sublist 2 ss)) (by rw [List.length_take]; omega) (by rw [List.length_take]; omega)
    have h1 : SqT K H6 t1 (r1.map V.str) := pu5.sqt sb6 (s5.sqt (pu3.sqt sb4 hr1.sqt))
    have h2 : SqT K H6 t2 (r2.map V.str) := pu5.sqt sb6 (s5.sqt hr2.sqt)
    have h3 : SqT K H6 t3 (r3.map V.str) := hr3.sqt
    have h4 : SqT K H6 a (ss.map V.str) := pu5.sqt sb6 (s5.sqt hA4)
    have sb06 : SameB p H H6 := sb1.trans (sb2.trans (sb3.trans (sb4.trans ((SameB.of s5).trans sb6))))
    have s7 := Same.new nR0 (o := .lst [.ref t1, .ref t2, .ref t3])
    have hR0 : (upd H6 R0 (.lst [.ref t1, .ref t2, .ref t3])) R0 = some (.lst [.ref t1, .ref t2, .ref t3]) := upd_same
    generalize upd H6 R0 (.lst [.ref t1, .ref t2, .ref t3]) = H7 at s7 hR0 ⊢
    have pu7 := pu6.same s7
    have l1 : r1.length ≤ 10 := ro1.le
    refine ⟨_, rfl, _, rfl, _, rfl, R0, _, 0, _, rfl, rfl, lst_of hR0, atI_nat (j := 0) rfl, p, t1, r1, rfl, pu7, s7.sqt h1, by omega, fun r4 t4 H8 pm4 sb8 pu8 hr4 => ?_⟩
    have ro4 : RowOk r4 := {
      ne := fun e => ro1.ne (List.length_eq_zero_iff.mp (by rw [← pm4.length_eq, e]; rfl))
      le := by rw [pm4.length_eq]; exact ro1.le
      nd := pm4.nodup_iff.mpr ro1.nd
      ok := fun z hz => ro1.ok z (pm4.subset hz) }
    have hR0' := sb8 _ _ np0 hR0
    refine ⟨_, rfl, R0, _, 0, _, rfl, rfl, lst_of hR0', atI_nat (j := 0) rfl, (by show 2 ≤ sizeLine; decide), fun R1 nR1 => ?_⟩
    have n01 : R0 ≠ R1 := ne_of_none hR0' nR1
    refine ⟨R0, R1, _, _, rfl, rfl, (by rw [upd_ne n01]; exact hR0'), upd_same, le_line (by simp), fun R nR => ?_⟩
    have s10 := (Same.new nR1 (o := .lst [.ref t4, .ref t1])).new' nR (o := .lst ([.ref t1, .ref t2, .ref t3] ++ [.ref t4, .ref t1]))
    have hR : (upd (upd H8 R1 (.lst [.ref t4, .ref t1])) R (.lst ([.ref t1, .ref t2, .ref t3] ++ [.ref t4, .ref t1]))) R = some (.lst ([t1, t2, t3, t4, t1].map V.ref)) := upd_same
    have rows8 : AllP (fun t c => SqT K H8 t (c.map V.str)) [t1, t2, t3, t4, t1] [r1, r2, r3, r4, r1] :=
      .cons (pu7.sqt sb8 (s7.sqt h1)) (.cons (pu7.sqt sb8 (s7.sqt h2)) (.cons (pu7.sqt sb8 (s7.sqt h3)) (.cons hr4 (.cons (pu7.sqt sb8 (s7.sqt h1)) .nil))))
    have hA8 : SqT K H8 a (ss.map V.str) := pu7.sqt sb8 (s7.sqt h4)
    have npR : R ≠ p := fun e => by
      obtain ⟨_, _, q, _⟩ := pu8.same (Same.new nR1 (o := .lst [.ref t4, .ref t1]))
      rw [← e, nR] at q
      cases q
    generalize upd (upd H8 R1 (.lst [.ref t4, .ref t1])) R (.lst ([.ref t1, .ref t2, .ref t3] ++ [.ref t4, .ref t1])) = Hb at s10 hR ⊢
    have rowsB : AllP (fun t c => SqT K Hb t (c.map V.str)) [t1, t2, t3, t4, t1] [r1, r2, r3, r4, r1] := rows8.imp fun _ _ q => s10.sqt q
    have puB := pu8.same s10
    have hAB := s10.sqt hA8 (K := K)
    have sbB : SameB p H Hb := sb06.trans ((SameB.of s7).trans (sb8.trans (SameB.of s10)))
    have okc : ∀ c ∈ [r1, r2, r3, r4, r1], RowOk c := fun c hc => by
      simp only [List.mem_cons, List.not_mem_nil, or_false] at hc
      rcases hc with rfl | rfl | rfl | rfl | rfl
      · exact ro1
      · exact ro2
      · exact ro3
      · exact ro4
      · exact ro1
    have five : [r1, r2, r3, r4, r1].length = 5 := rfl
    generalize [t1, t2, t3, t4, t1] = as at hR rowsB
    generalize [r1, r2, r3, r4, r1] = cs at rowsB okc five
    have las := rowsB.len
    refine ⟨_, rfl, R, rfl, ⟨_, lst_of hR⟩, fun D nD => lc_list (K := K) (a := R) (xs := as.map V.ref) (fun i H' => SameB p Hb H' ∧ Pu H' p ∧ ∃ xs : List Addr, H' D = some (.lst (xs.map V.ref)) ∧ AllP (RkAt K T.C H') xs (cs.take i))
      ⟨SameB.of (Same.new nD), puB.same (Same.new nD), [], upd_same, .nil⟩ (fun i H' _ h => lst_of (h.1 _ _ npR hR)) ?_ ?_⟩
    · rintro i y H11 hy ⟨sb11, pu11, xs, hD, ha⟩
      obtain ⟨t, ht, rfl⟩ := ref_at hy
      obtain ⟨c, hc, hct⟩ := rowsB.get ht
      have npD : D ≠ p := fun e => by
        obtain ⟨_, _, q, _⟩ := id puB
        rw [← e, nD] at q
        cases q
      refine ⟨rfl, _, rfl, _, rfl, p, t, c, rfl, pu11, puB.sqt sb11 hct, okc c (List.mem_of_getElem? hc), fun x' H12 sb12 pu12 rk => ?_⟩
      have hD12 := sb12 _ _ npD hD
      refine ⟨_, hD12, lt_line ?_, fun b o nb e => ?_, pu12.put hD12 ?_, xs ++ [x'], ?_, ?_⟩
      · rw [List.length_map, ha.len, List.length_take]
        omega
      · rw [upd_ne (ne_of_none e nD)]
        exact sb12 _ _ nb (sb11 _ _ nb e)
      · intro x y e
        have e2 : xs.map V.ref = [.int x, .int y] := by injection e
        match xs, e2 with
        | [], q => cases q
        | _ :: _, q => cases q
      · rw [upd_same, List.map_append]
        rfl
      · have sD : SameB D H12 (upd H12 D (.lst (xs.map V.ref ++ [.ref x']))) := (SameB.refl D H12).put
        rw [List.take_add_one, hc]
        refine AllP.snoc (rk.sameB sD hD12) (ha.imp fun z r q => ?_)
        obtain ⟨_, _, hp, _⟩ := id pu11
        exact (q.sameB sb12 hp).sameB sD hD12
    · rintro H11 ⟨sb11, pu11, xs, hD, ha⟩
      rw [List.length_map, las, List.take_of_length_le (Nat.le_refl _)] at ha
      have sc : Scene K T.C H11 a ss R as D xs cs := {
        hA := puB.sqt sb11 hAB
        hR := sb11 _ _ npR hR
        rows := rowsB.imp fun _ _ q => puB.sqt sb11 q
        hD := hD
        made := ha
        five := five
        ok := okc
        hss := okp
        lss := lss }
      have kk : ∀ H', Same H11 H' → Q (.bl true) H' := fun H' s => k H' (sbB.trans (sb11.trans (SameB.of s)))
      have lxs := sc.made.len
      have las2 := sc.rows.len
      refine ⟨_, rfl, by decide, by decide, for_range (lo := 0) (n := 2) (fun i σ H' => ∃ v3 v5 v6 v7, σ = [some (.ref p), some (.ref a), some (.ref R), v3, some (.ref D), v5, v6, v7, none, none, none] ∧ Same H11 H') ⟨none, none, none, none, rfl, Same.refl _⟩ ?_ ?_⟩
      · rintro i σ H12 hi ⟨v3, v5, v6, v7, rfl, s12⟩
        have sc12 := sc.same s12
        refine ⟨_, rfl, by decide, by decide, fun D1 nD1 => lc_range (lo := 0) (n := 5) (fun j H' => Same H12 H' ∧ H' D1 = some (.lst [])) ⟨Same.new nD1, upd_same⟩ ?_ ?_⟩
        · rintro j H13 hj ⟨s13, e13⟩
          rw [show (0 : Int) + (j : Int) = ((j : Nat) : Int) from Int.zero_add _]
          have sc13 := sc12.same s13
          obtain ⟨x, hx⟩ : ∃ x, xs[j]? = some x := ⟨xs[j]'(by omega), List.getElem?_eq_getElem (by omega)⟩
          obtain ⟨t, ht⟩ : ∃ t, as[j]? = some t := ⟨as[j]'(by omega), List.getElem?_eq_getElem (by omega)⟩
          obtain ⟨c, hc, rk⟩ := sc13.made.get hx
          obtain ⟨c', hc', hct⟩ := sc13.rows.get ht
          obtain rfl : c = c' := Option.some.inj (hc.symm.trans hc')
          have gx : (xs.map V.ref)[j]? = some (.ref x) := by
            rw [List.getElem?_map, hx]
            rfl
          have gt : (as.map V.ref)[j]? = some (.ref t) := by
            rw [List.getElem?_map, ht]
            rfl
          exact ⟨rfl, _, rfl, _, rfl, D, _, _, _, rfl, rfl, lst_of sc13.hD, atI_nat gx, _, rfl, _, rfl, R, _, _, _, rfl, rfl, lst_of sc13.hR, atI_nat gt, x, t, c, rfl, rk, hct, fun H14 s14 => ⟨true, rfl, iteF ⟨s13.trans s14, s14 _ _ e13⟩⟩⟩
        · rintro H13 ⟨s13, e13⟩
          refine ⟨Nat.zero_le _, fun e ne => ⟨.list [], .list [], .lst (lst_of ((Same.new ne) _ _ e13)) .nil, .lst (lst_of upd_same) .nil, by decide, by decide, _, rfl, ifF (by decide) ?_⟩⟩
          have s14 := s12.trans (s13.new' ne (o := .lst []))
          generalize upd H13 e (.lst []) = H14 at s14 ⊢
          have sc14 := sc.same s14
          refine ⟨_, rfl, _, rfl, D, R, _, _, rfl, .inl ⟨lst_of sc14.hD, lst_of sc14.hR, RZ.for_zipL (K := K) (a := D) (b := R) (xs := xs.map V.ref) (ys := as.map V.ref) (by rw [List.length_map, List.length_map]; omega)
            (fun j σ H' => ∃ v3 v5 v6 v7, σ = [some (.ref p), some (.ref a), some (.ref R), v3, some (.ref D), v5, v6, v7, none, none, none] ∧ Same H11 H') ⟨_, _, _, _, rfl, s14⟩ (fun j σ H' ⟨_, _, _, _, _, s⟩ => ⟨lst_of (s _ _ sc.hD), lst_of (s _ _ sc.hR)⟩) ?_ ?_⟩⟩
          · rintro j y1 y2 Tz σ H15 hy1 hy2 ⟨w3, w5, w6, w7, rfl, s15⟩ nTz
            obtain ⟨x, hx, rfl⟩ := ref_at hy1
            obtain ⟨t, ht, rfl⟩ := ref_at hy2
            refine ⟨Tz, _, rfl, tup_of upd_same, rfl, _, _, rfl, _, _, rfl, rfl, ?_⟩
            have s16 := s15.new' nTz (o := .tup [.ref x, .ref t])
            generalize upd H15 Tz (.tup [.ref x, .ref t]) = H16 at s16 ⊢
            have sc16 := sc.same s16
            obtain ⟨c, hc, rk⟩ := sc16.made.get hx
            obtain ⟨c', hc', hct⟩ := sc16.rows.get ht
            obtain rfl : c = c' := Option.some.inj (hc.symm.trans hc')
            have roc := okc c (List.mem_of_getElem? hc)
            have tk5 : ∀ n, n = cs.length → cs.take n = cs := fun n h => List.take_of_length_le (by omega)
            -- the row of ==
            refine ⟨_, rfl, D, rfl, ⟨_, lst_of sc16.hD⟩, fun D2 nD2 => lc_list (K := K) (a := D) (xs := xs.map V.ref) (fun i H' => Same H16 H' ∧ H' D2 = some (.lst (((cs.take i).map fun r => decide (c = r)).map V.bl))) ⟨Same.new nD2, upd_same⟩ (fun i H' _ h => lst_of (h.1 _ _ sc16.hD)) ?_ ?_⟩
            · rintro q y H17 hy ⟨s17, e17⟩
              obtain ⟨m, hm, rfl⟩ := ref_at hy
              have sc17 := sc16.same s17
              obtain ⟨r, hr, rkm⟩ := sc17.made.get hm
              have rk17 := rk.same s17
              obtain ⟨_, _, _, _, hx17, _⟩ := id rk17
              obtain ⟨_, _, _, _, hm17, _⟩ := id rkm
              refine ⟨rfl, _, rfl, _, rfl, x, m, _, _, _, _, rfl, rfl, hx17, hm17, x, m, c, r, rfl, rk17, rkm, ⟨_, rfl⟩, _, e17, lt_line ?_, fun b o e => ?_, ?_⟩
              · rw [List.length_map, List.length_map, List.length_take]
                omega
              · rw [upd_ne (ne_of_none e nD2)]
                exact s17 _ _ e
              · rw [upd_same, List.take_add_one, hr, List.map_append, List.map_append]
                rfl
            rintro H17 ⟨s17, e17⟩
            rw [List.length_map, tk5 _ lxs] at e17
            obtain ⟨a1, a2, a3, a4, a5⟩ := bools_show (K := K) (lst_of e17) (by rw [List.length_map]; omega)
            refine ⟨D2, _, rfl, a1, a2, a3, a4, a5, ?_⟩
            have sc17 := sc16.same s17
            refine ⟨_, rfl, R, rfl, ⟨_, lst_of sc17.hR⟩, fun D3 nD3 => lc_list (K := K) (a := R) (xs := as.map V.ref) (fun i H' => Same H17 H' ∧ H' D3 = some (.lst (((cs.take i).map fun r => decide (c = r)).map V.bl))) ⟨Same.new nD3, upd_same⟩ (fun i H' _ h => lst_of (h.1 _ _ sc17.hR)) ?_ ?_⟩
            · rintro q y H18 hy ⟨s18, e18⟩
              obtain ⟨m, hm, rfl⟩ := ref_at hy
              have sc18 := sc17.same s18
              obtain ⟨r, hr, hmt⟩ := sc18.rows.get hm
              have ror := okc r (List.mem_of_getElem? hr)
              refine ⟨rfl, _, rfl, _, rfl, .tuple (c.map .str), .tuple (r.map .str), .tup ((s17.trans s18).sqt hct) (dp_strs c), .tup hmt (dp_strs r), shaped_strs roc.ok, shaped_strs ror.ok, ?_⟩
              rw [eqv_strs]
              refine ⟨_, e18, lt_line ?_, fun b o e => ?_, ?_⟩
              · rw [List.length_map, List.length_map, List.length_take]
                omega
              · rw [upd_ne (ne_of_none e nD3)]
                exact s18 _ _ e
              · rw [upd_same, List.take_add_one, hr, List.map_append, List.map_append]
                rfl
            rintro H18 ⟨s18, e18⟩
            rw [List.length_map, tk5 _ las2] at e18
            obtain ⟨b1, b2, b3, b4, b5⟩ := bools_show (K := K) (lst_of e18) (by rw [List.length_map]; omega)
            refine ⟨D3, _, rfl, b1, b2, b3, b4, b5, rfl, _, rfl, ifF (by simp) ?_⟩
            have s1618 := s17.trans s18
            clear a1 a2 a3 a4 a5 b1 b2 b3 b4 b5 e17 e18 sc17
            have sc18 := sc16.same s1618
            -- the row of !=
            refine ⟨_, rfl, D, rfl, ⟨_, lst_of sc18.hD⟩, fun D4 nD4 => lc_list (K := K) (a := D) (xs := xs.map V.ref) (fun i H' => Same H18 H' ∧ H' D4 = some (.lst (((cs.take i).map fun r => !decide (c = r)).map V.bl))) ⟨Same.new nD4, upd_same⟩ (fun i H' _ h => lst_of (h.1 _ _ sc18.hD)) ?_ ?_⟩
            · rintro q y H19 hy ⟨s19, e19⟩
              obtain ⟨m, hm, rfl⟩ := ref_at hy
              have sc19 := sc18.same s19
              obtain ⟨r, hr, rkm⟩ := sc19.made.get hm
              have rk19 := rk.same (s1618.trans s19)
              obtain ⟨_, _, _, _, hx19, _⟩ := id rk19
              obtain ⟨_, _, _, _, hm19, _⟩ := id rkm
              refine ⟨rfl, _, rfl, _, rfl, x, m, _, _, _, _, rfl, rfl, hx19, hm19, x, m, c, r, rfl, rk19, rkm, _, rfl, _, e19, lt_line ?_, fun b o e => ?_, ?_⟩
              · rw [List.length_map, List.length_map, List.length_take]
                omega
              · rw [upd_ne (ne_of_none e nD4)]
                exact s19 _ _ e
              · rw [upd_same, List.take_add_one, hr, List.map_append, List.map_append]
                rfl
            rintro H19 ⟨s19, e19⟩
            rw [List.length_map, tk5 _ lxs] at e19
            obtain ⟨a1, a2, a3, a4, a5⟩ := bools_show (K := K) (lst_of e19) (by rw [List.length_map]; omega)
            refine ⟨D4, _, rfl, a1, a2, a3, a4, a5, ?_⟩
            have sc19 := sc18.same s19
            refine ⟨_, rfl, R, rfl, ⟨_, lst_of sc19.hR⟩, fun D5 nD5 => lc_list (K := K) (a := R) (xs := as.map V.ref) (fun i H' => Same H19 H' ∧ H' D5 = some (.lst (((cs.take i).map fun r => !decide (c = r)).map V.bl))) ⟨Same.new nD5, upd_same⟩ (fun i H' _ h => lst_of (h.1 _ _ sc19.hR)) ?_ ?_⟩
            · rintro q y H20 hy ⟨s20, e20⟩
              obtain ⟨m, hm, rfl⟩ := ref_at hy
              have sc20 := sc19.same s20
              obtain ⟨r, hr, hmt⟩ := sc20.rows.get hm
              have ror := okc r (List.mem_of_getElem? hr)
              refine ⟨rfl, _, rfl, _, rfl, .tuple (c.map .str), .tuple (r.map .str), .tup ((s1618.trans (s19.trans s20)).sqt hct) (dp_strs c), .tup hmt (dp_strs r), shaped_strs roc.ok, shaped_strs ror.ok, ?_⟩
              rw [eqv_strs]
              refine ⟨_, e20, lt_line ?_, fun b o e => ?_, ?_⟩
              · rw [List.length_map, List.length_map, List.length_take]
                omega
              · rw [upd_ne (ne_of_none e nD5)]
                exact s20 _ _ e
              · rw [upd_same, List.take_add_one, hr, List.map_append, List.map_append]
                rfl
            rintro H20 ⟨s20, e20⟩
            rw [List.length_map, tk5 _ las2] at e20
            obtain ⟨b1, b2, b3, b4, b5⟩ := bools_show (K := K) (lst_of e20) (by rw [List.length_map]; omega)
            refine ⟨D5, _, rfl, b1, b2, b3, b4, b5, rfl, _, rfl, ifF (by simp) ?_⟩
            have s1620 := s1618.trans (s19.trans s20)
            clear a1 a2 a3 a4 a5 b1 b2 b3 b4 b5 e19 e20 sc19
            have sc20 := sc16.same s1620
            have rk20 := rk.same s1620
            have hct20 := s1620.sqt hct (K := K)
            obtain ⟨dx, tt, tss, thh, hx20, _⟩ := id rk20
            -- values of other kinds
            refine ⟨_, rfl, _, rfl, t, _, rfl, .inr hct20, fun l nl => ?_⟩
            have sl := Same.new nl (o := .lst (c.map V.str))
            have hl0 : (upd H20 l (.lst (c.map V.str))) l = some (.lst (c.map V.str)) := upd_same
            generalize upd H20 l (.lst (c.map V.str)) = H21 at sl hl0 ⊢
            have rk21 := rk20.same sl
            obtain ⟨_, _, _, _, hx21, _⟩ := id rk21
            refine ⟨_, rfl, x, _, _, rfl, hx21, x, c, rfl, rk21, ⟨_, rfl⟩, _, rfl, x, _, _, rfl, hx21, x, c, rfl, rk21, ⟨_, rfl⟩, _, rfl, (by show 1 ≤ sizeLine; decide), fun m nm => ?_⟩
            refine fun e ne => ⟨(by show 9 ≤ sizeLine; decide), fun L nL => ?_⟩
            have sm := Same.new nm (o := .lst [.ref x])
            have hm0 : (upd H21 m (.lst [.ref x])) m = some (.lst [.ref x]) := upd_same
            generalize upd H21 m (.lst [.ref x]) = H22 at sm hm0 ne nL ⊢
            have se := Same.new ne (o := .dK [])
            have he0 : (upd H22 e (.dK [])) e = some (.dK []) := upd_same
            generalize upd H22 e (.dK []) = H23 at se he0 nL ⊢
            have sL := Same.new nL (o := .lst [.non, .int 0, .bl true, .ref t, .ref l, .str (Txt.join " " c), .str ("Ranking " ++ Txt.join " " c), .ref m, .ref e])
            have odd : ∀ y ∈ [V.non, .int 0, .bl true, .ref t, .ref l, .str (Txt.join " " c), .str ("Ranking " ++ Txt.join " " c), .ref m, .ref e], Odd K T.C (upd H23 L (.lst [.non, .int 0, .bl true, .ref t, .ref l, .str (Txt.join " " c), .str ("Ranking " ++ Txt.join " " c), .ref m, .ref e])) y := fun y hy => by
              simp only [List.mem_cons, List.not_mem_nil, or_false] at hy
              rcases hy with rfl | rfl | rfl | rfl | rfl | rfl | rfl | rfl | rfl
              · exact ⟨"NoneType", .base .non, sub_ty (l := [.type "NoneType", .type "object"]) (by decide +kernel) rfl⟩
              · exact ⟨"int", .base (.int 0), sub_ty (l := [.type "int", .type "object"]) (by decide +kernel) rfl⟩
              · exact ⟨"bool", .base (.bl true), sub_ty (l := [.type "bool", .type "int", .type "object"]) (by decide +kernel) rfl⟩
              · exact ⟨"tuple", ((sl.trans (sm.trans (se.trans sL))).sqt hct20).ty, sub_ty (l := [.type "tuple", .type "object"]) (by decide +kernel) rfl⟩
              · exact ⟨"list", .base (.lst ((sm.trans (se.trans sL)) _ _ hl0)), sub_ty (l := [.type "list", .type "object"]) (by decide +kernel) rfl⟩
              · exact ⟨"str", .base (.str _), sub_ty (l := [.type "str", .type "object"]) (by decide +kernel) rfl⟩
              · exact ⟨"str", .base (.str _), sub_ty (l := [.type "str", .type "object"]) (by decide +kernel) rfl⟩
              · exact ⟨"list", .base (.lst ((se.trans sL) _ _ hm0)), sub_ty (l := [.type "list", .type "object"]) (by decide +kernel) rfl⟩
              · exact ⟨"dict", .base (.dK (sL _ _ he0)), sub_ty (l := [.type "dict", .type "object"]) (by decide +kernel) rfl⟩
            have s1624 := s1620.trans (sl.trans (sm.trans (se.trans sL)))
            have hL0 : (upd H23 L (.lst [.non, .int 0, .bl true, .ref t, .ref l, .str (Txt.join " " c), .str ("Ranking " ++ Txt.join " " c), .ref m, .ref e])) L = some (.lst [.non, .int 0, .bl true, .ref t, .ref l, .str (Txt.join " " c), .str ("Ranking " ++ Txt.join " " c), .ref m, .ref e]) := upd_same
            generalize upd H23 L (.lst [.non, .int 0, .bl true, .ref t, .ref l, .str (Txt.join " " c), .str ("Ranking " ++ Txt.join " " c), .ref m, .ref e]) = H24 at s1624 hL0 odd ⊢
            clear sL se sm
            refine ⟨L, rfl, ⟨_, lst_of hL0⟩, for_list (K := K) (a := L) (xs := [.non, .int 0, .bl true, .ref t, .ref l, .str (Txt.join " " c), .str ("Ranking " ++ Txt.join " " c), .ref m, .ref e])
              (fun q σ H' => ∃ v7, σ = [some (.ref p), some (.ref a), some (.ref R), some (.ref t), some (.ref D), w5, some (.ref x), v7, none, none, none] ∧ Same H24 H') ⟨_, rfl, Same.refl _⟩ (fun q σ H' _ ⟨_, _, s⟩ => lst_of (s _ _ hL0)) ?_ ?_⟩
            · rintro q y σ H25 hy ⟨v7, rfl, s25⟩
              obtain ⟨N, ty, sb⟩ := odd y (List.mem_of_getElem? hy)
              have ty25 := tyx_same ty s25
              have rk25 := rk.same (s1624.trans s25)
              obtain ⟨_, _, _, _, hx25, _⟩ := id rk25
              have ko := kit_own T.cl T.cty sb
              refine ⟨_, rfl, _, rfl, x, _, _, _, rfl, hx25, ty25, notFirst_ty sb, x, y, N, c, rfl, rk25, ty25, ko, ⟨_, rfl⟩, _, rfl, ifF rfl ?_⟩
              refine ⟨_, rfl, _, rfl, x, _, _, _, rfl, hx25, ty25, notFirst_ty sb, x, y, N, c, rfl, rk25, ty25, ko, _, rfl, _, rfl, ifF rfl ?_⟩
              exact ⟨_, rfl, s25⟩
            rintro σ H25 ⟨v7, rfl, s25⟩
            have s1625 := s1624.trans s25
            clear odd hL0 hl0 hm0 he0
            have sc25 := sc16.same s1625
            have rk25 := rk.same s1625
            have hct25 := s1625.sqt hct (K := K)
            obtain ⟨z0, hz0⟩ : ∃ z, c[0]? = some z := ⟨c[0]'(List.length_pos_iff.mpr roc.ne), List.getElem?_eq_getElem (List.length_pos_iff.mpr roc.ne)⟩
            have gz0 : (c.map V.str)[0]? = some (.str z0) := by
              rw [List.getElem?_map, hz0]
              rfl
            have lz0 := nameOk_len (roc.ok z0 (List.mem_of_getElem? hz0))
            -- things asked for
            refine ⟨_, rfl, a, _, rfl, .inr sc25.hA, fun l2 nl2 => ?_⟩
            have sl2 := Same.new nl2 (o := .lst (ss.map V.str))
            have hl2 : (upd H25 l2 (.lst (ss.map V.str))) l2 = some (.lst (ss.map V.str)) := upd_same
            generalize upd H25 l2 (.lst (ss.map V.str)) = H26 at sl2 hl2 ⊢
            refine ⟨_, rfl, Nat.zero_le _, fun e1 ne1 => ?_⟩
            have se1 := Same.new ne1 (o := .lst [])
            have he1 : (upd H26 e1 (.lst [])) e1 = some (.lst []) := upd_same
            generalize upd H26 e1 (.lst []) = H27 at se1 he1 ⊢
            intro e2 ne2
            have se2 := Same.new ne2 (o := .dK [])
            have he2 : (upd H27 e2 (.dK [])) e2 = some (.dK []) := upd_same
            generalize upd H27 e2 (.dK []) = H28 at se2 he2 ⊢
            have s2528 := sl2.trans (se1.trans se2)
            refine ⟨_, rfl, t, _, 0, _, rfl, rfl, s2528.sqt hct25, atI_nat (j := 0) gz0, _, _, rfl, rfl, le_line (by show z0.length + 1 ≤ 100000; omega), (by show 10 ≤ sizeLine; decide), fun M nM => ?_⟩
            have sM := Same.new nM (o := .lst [.str "", .str "zz9", .int 0, .non, .bl true, .ref t, .ref e1, .ref e2, .str (z0 ++ "x"), .str "A"])
            have hM : (upd H28 M (.lst [.str "", .str "zz9", .int 0, .non, .bl true, .ref t, .ref e1, .ref e2, .str (z0 ++ "x"), .str "A"])) M = some (.lst [.str "", .str "zz9", .int 0, .non, .bl true, .ref t, .ref e1, .ref e2, .str (z0 ++ "x"), .str "A"]) := upd_same
            generalize upd H28 M (.lst [.str "", .str "zz9", .int 0, .non, .bl true, .ref t, .ref e1, .ref e2, .str (z0 ++ "x"), .str "A"]) = H29 at sM hM ⊢
            refine ⟨l2, M, _, _, rfl, rfl, (se1.trans (se2.trans sM)) _ _ hl2, hM, le_line (by rw [List.length_map]; show ss.length + 10 ≤ 100000; omega), fun L9 nL9 => ?_⟩
            have sL9 := Same.new nL9 (o := .lst (ss.map V.str ++ [.str "", .str "zz9", .int 0, .non, .bl true, .ref t, .ref e1, .ref e2, .str (z0 ++ "x"), .str "A"]))
            have hL9 : (upd H29 L9 (.lst (ss.map V.str ++ [.str "", .str "zz9", .int 0, .non, .bl true, .ref t, .ref e1, .ref e2, .str (z0 ++ "x"), .str "A"]))) L9 = some (.lst (ss.map V.str ++ [.str "", .str "zz9", .int 0, .non, .bl true, .ref t, .ref e1, .ref e2, .str (z0 ++ "x"), .str "A"])) := upd_same
            generalize upd H29 L9 (.lst (ss.map V.str ++ [.str "", .str "zz9", .int 0, .non, .bl true, .ref t, .ref e1, .ref e2, .str (z0 ++ "x"), .str "A"])) = H30 at sL9 hL9 ⊢
            have kind : ∀ y ∈ ss.map V.str ++ [V.str "", .str "zz9", .int 0, .non, .bl true, .ref t, .ref e1, .ref e2, .str (z0 ++ "x"), .str "A"], (∃ z : Str, y = .str z) ∨ (∃ N : String, TyX K H30 y (.type N) ∧ kitB N "str" = some false) := fun y hy => by
              rcases List.mem_append.mp hy with hy | hy
              · obtain ⟨z, _, rfl⟩ := List.mem_map.mp hy
                exact .inl ⟨z, rfl⟩
              · simp only [List.mem_cons, List.not_mem_nil, or_false] at hy
                rcases hy with rfl | rfl | rfl | rfl | rfl | rfl | rfl | rfl | rfl | rfl
                · exact .inl ⟨_, rfl⟩
                · exact .inl ⟨_, rfl⟩
                · exact .inr ⟨"int", .base (.int 0), by decide +kernel⟩
                · exact .inr ⟨"NoneType", .base .non, by decide +kernel⟩
                · exact .inr ⟨"bool", .base (.bl true), by decide +kernel⟩
                · exact .inr ⟨"tuple", ((s2528.trans (sM.trans sL9)).sqt hct25).ty, by decide +kernel⟩
                · exact .inr ⟨"list", .base (.lst ((se2.trans (sM.trans sL9)) _ _ he1)), by decide +kernel⟩
                · exact .inr ⟨"dict", .base (.dK ((sM.trans sL9) _ _ he2)), by decide +kernel⟩
                · exact .inl ⟨_, rfl⟩
                · exact .inl ⟨_, rfl⟩
            have s1630 := s1625.trans (s2528.trans (sM.trans sL9))
            clear sL9 sM se1 se2 s2528 sl2
            generalize ss.map V.str ++ [V.str "", .str "zz9", .int 0, .non, .bl true, .ref t, .ref e1, .ref e2, .str (z0 ++ "x"), .str "A"] = ys at hL9 kind ⊢
            refine ⟨L9, rfl, ⟨_, lst_of hL9⟩, for_list (K := K) (a := L9) (xs := ys)
              (fun q σ H' => ∃ v7, σ = [some (.ref p), some (.ref a), some (.ref R), some (.ref t), some (.ref D), w5, some (.ref x), v7, none, none, none] ∧ Same H30 H') ⟨_, rfl, Same.refl _⟩ (fun q σ H' _ ⟨_, _, s⟩ => lst_of (s _ _ hL9)) ?_ ?_⟩
            · rintro q y σ H31 hy ⟨v7, rfl, s31⟩
              have rk31 := rk.same (s1630.trans s31)
              have hct31 := (s1630.trans s31).sqt hct (K := K)
              obtain ⟨_, _, _, _, hx31, _⟩ := id rk31
              rcases kind y (List.mem_of_getElem? hy) with ⟨z, rfl⟩ | ⟨N, ty, kb⟩
              · refine ⟨_, rfl, _, rfl, x, _, _, rfl, hx31, x, _, c, rfl, rk31, .inl ⟨z, rfl, ⟨_, rfl⟩, _, rfl, ?_⟩⟩
                refine ⟨_, rfl, _, _, _, _, true, rfl, .ty _, .base (.str z), kit_ty (by decide +kernel), true, rfl, iteT ?_⟩
                refine ⟨_, rfl, _, rfl, t, _, rfl, .inr hct31, rfl, flat_strs c, _, rfl, rfl, _, rfl, ifF ?_ ⟨_, rfl, s31⟩⟩
                rw [if_neg Bool.false_ne_true, inV_strs]
                simp
              · have ty31 := tyx_same ty s31
                refine ⟨_, rfl, _, rfl, x, _, _, rfl, hx31, x, _, c, rfl, rk31, .inr ⟨N, ty31, kb, ⟨_, rfl⟩, _, rfl, ?_⟩⟩
                exact ⟨_, rfl, _, _, _, _, false, rfl, .ty _, ty31, kit_ty kb, false, rfl, iteF ⟨_, rfl, rfl, _, rfl, ifF (by simp) ⟨_, rfl, s31⟩⟩⟩
            rintro σ H31 ⟨v7, rfl, s31⟩
            exact ⟨_, _, _, _, rfl, s16.trans (s1630.trans s31)⟩
          · rintro σ H15 ⟨w3, w5, w6, w7, rfl, s15⟩
            exact ⟨_, _, _, _, rfl, s15⟩
      · rintro σ H12 ⟨v3, v5, v6, v7, rfl, s12⟩
        exact kk H12 s12
end
end MH
namespace MH
open PySem PySem.Spec PyProof.Rows L2
theorem _root_.L2.Same.sql {K : PySem.W.Frag} {H H' : Hp} {a : Addr} {xs : List V} (e : Same H H') (h : SqL K H a xs) : SqL K H' a xs := by
  rcases h with (h | ⟨o, h⟩) | h
  · exact .inl (.inl (e _ _ h))
  · exact .inl (.inr ⟨o, e _ _ h⟩)
  · exact .inr h
def spLaw (K : PySem.W.Frag) : Sp := fun vs H Q _ => ∃ (a : Addr) (ns : List Int), vs = [.ref a] ∧ SqL K H a (ns.map V.int) ∧ ns.length ≤ 63 ∧ ∀ H', Q (.bl true) H'
section
variable {P : Program} {w : World} {K : PySem.W.Frag} {mg : Str → Option Value} {base : Heap}
theorem g_law (T : Tx K mg) : FnG P w K mg base 10 T.a_law (spLaw K) := by
  refine fun_g T.F_law sc_law T.b_law (fun vs H Q E h => ?_) (fun cdv A outer s H vs Q hg hr h => ?_)
  · obtain ⟨a, ns, rfl, _⟩ := h
    rfl
  · obtain ⟨a, ns, rfl, hS, hlen, k⟩ := h
    refine ⟨_, (pss_one (ps_ret (pe_callB (cr_all rfl) (by rfl) T.n_all (by decide +kernel) (pa_cons (pe_lc (own := [("_law_spot", 1)]) (g := gName 1) (tt := tYes) rfl sc_law.nd (pi_range1 (by rfl) T.n_range (pa_cons (pe_callB (call_max2 rfl) (by rfl) T.n_max (by decide +kernel) (pa_cons pe_int (pa_cons (pe_callB (call_min2 rfl) (by rfl) T.n_min (by decide +kernel) (pa_cons (pe_callB call_len_seq (by rfl) T.n_len (by decide +kernel) (pa_cons (pv 0) pa_nil)) (pa_cons pe_int pa_nil))) pa_nil))) pa_nil)) (blkOk_by (own := [("_law_spot", 1)]) (N := names_law) (sc := defScope st_law) (by decide +kernel)) (fun _ _ _ _ _ => pg_name (i := 1) sc_law.nd rfl (Or.inl rfl)) (fun _ _ _ _ _ => pts_nil) (fun _ _ _ _ _ => (pe_callg (g_l_right T) hg (hr.mono (by decide)) rfl T.g_l_right T.F_l_right.kp (pa_cons (pe_call (ok_l_purse T) (hr.mono (by decide)) rfl T.g_l_purse T.F_l_purse.kp T.b_l_purse .nil pass0 (pa_cons (pv 0) (pa_cons (pv 1) pa_nil))) pa_nil)))) pa_nil)))), ?_⟩
    have hl : (ns.map V.int).length = ns.length := List.length_map _
    refine ⟨_, rfl, a, _, rfl, .inl hS, _, _, rfl, _, _, rfl, _, rfl, ?_, ?_, fun D nD => lc_range (lo := 0) (n := _) (fun i H' => Same H H' ∧ H' D = some (.lst (List.replicate i (V.bl true)))) ⟨Same.new nD, upd_same⟩ ?_ ?_⟩
    · omega
    · omega
    · rintro i H1 hi ⟨s1, e1⟩
      have hi : i < 100 := by omega
      refine ⟨rfl, ?_⟩
      rw [show (0 : Int) + (i : Int) = ((i : Nat) : Int) from Int.zero_add _]
      refine ⟨_, rfl, _, rfl, a, ns, i, rfl, s1.sql hS, hlen, by omega, fun H2 p s2 np pu => ⟨p, rfl, pu, fun H3 sb => ?_⟩⟩
      have nDp : D ≠ p := fun e => by
        rw [e, np] at e1
        cases e1
      have e3 := sb _ _ nDp (s2 _ _ e1)
      refine ⟨_, e3, lt_line (by rw [List.length_replicate]; omega), fun b o e => ?_, ?_⟩
      · rw [upd_ne (ne_of_none e nD)]
        have h1 := s1 _ _ e
        exact sb _ _ (ne_of_none h1 np) (s2 _ _ h1)
      · rw [upd_same, List.replicate_succ']
    · rintro H1 ⟨s1, e1⟩
      refine ⟨D, List.replicate _ true, rfl, lst_of (by rw [e1, List.map_replicate]), ?_⟩
      have e : ∀ n : Nat, (List.replicate n true).all id = true := fun n => List.all_eq_true.mpr fun b hb => List.eq_of_mem_replicate hb
      rw [e]
      exact k _
end
section
variable {P : Program} {w : World} {K : PySem.W.Frag} {mg : Str → Option Value} {base : Heap}
theorem walk0 {l : PySem.W.OpenLaw} {q : Program} {loose : List Str} {XP : (Str → Option Value) → Heap → Prop} {YP : World → Heap → Prop} {d : DefRec} {K : Params → PySem.W.Frag}
    (hn : l.most = some 63) (hdf : d.params.defaults = []) (hd : d.name = "law") (hY : ∀ (w : World) (h : Heap), YP w h → (K w.params).In h)
    (F : ∀ (w : World) (mg : Str → Option Value) (fa : Addr) (h : Heap), (K w.params).In h → h.Ns mainGlobals mg → mg "law" = some (.ref fa) → ∃ T : Tx (K w.params) mg, T.a_law = fa) : PySem.W.WalkO q loose XP YP l.row.toRowW d [] (fun f vs => PySem.call f vs) := by
  refine walk_g (sp := spLaw) (k := 10) hn (by decide) hdf ⟨rfl, by decide, by decide⟩ hY (fun w mg fa h KX G hmg base hb hg => ?_) fun K H a ns hl hS => ⟨a, ns, rfl, hS, hl, fun _ => rfl⟩
  rw [hd] at hmg
  obtain ⟨T, rfl⟩ := F w mg fa h KX G hmg
  exact g_law T
end
end MH
open PySem PySem.W PyProof.Rows in
set_option maxRecDepth 100000 in
set_option maxHeartbeats 0 in
theorem PySem.Challenge.cw_menuhouses_k02_rankings_made_holds : PySem.Challenge.rw_menuhouses_k02_rankings_made.Holds := by
  w_on; o_law; k_head; (case hw => w_witness2)
  k_fill
  refine MH.walk0 (l := PySem.Challenge.rw_menuhouses_k02_rankings_made) rfl rfl rfl (fun w h Y => PySem.W.kIn_of Y) ?F
  case F =>
    intro w mg fa h KX G hmg
    refine' MH.tx_of KX G hmg ?cg_Ranking ?cp_Ranking ?ch_Ranking ?co_Ranking ?cs_Ranking ?cm_Ranking ?ck_Ranking ?cne_Ranking ?cob_Ranking ?cca_Ranking ?ccb_Ranking ?ccc_Ranking ?cbo_Ranking ?cfm_Ranking ?crd_Ranking ?cty_Ranking ?cga_Ranking ?cn_Ranking__row ?cn_Ranking__things ?a_is_index ?l_is_index ?c_is_index ?k_is_index ?a_is_name ?l_is_name ?c_is_name ?k_is_name ?a_is_filled_tuple ?l_is_filled_tuple ?c_is_filled_tuple ?k_is_filled_tuple ?a_is_one_of ?l_is_one_of ?c_is_one_of ?k_is_one_of ?a_first_wrong_in_row ?l_first_wrong_in_row ?c_first_wrong_in_row ?k_first_wrong_in_row ?a_check_row ?l_check_row ?c_check_row ?k_check_row ?a_RankingD_initD ?i_RankingD_initD ?l_RankingD_initD ?c_RankingD_initD ?k_RankingD_initD ?a_Ranking_of ?pr_Ranking_of ?fi_Ranking_of ?l_Ranking_of ?c_Ranking_of ?k_Ranking_of ?a_Ranking_read ?pr_Ranking_read ?fi_Ranking_read ?l_Ranking_read ?c_Ranking_read ?k_Ranking_read ?a_Ranking_row ?pg_Ranking_row ?pt_Ranking_row ?pr_Ranking_row ?l_Ranking_row ?c_Ranking_row ?k_Ranking_row ?a_Ranking_things ?pg_Ranking_things ?pt_Ranking_things ?pr_Ranking_things ?l_Ranking_things ?c_Ranking_things ?k_Ranking_things ?a_RankingD_getitemD ?i_RankingD_getitemD ?fi_RankingD_getitemD ?l_RankingD_getitemD ?c_RankingD_getitemD ?k_RankingD_getitemD ?a_RankingD_containsD ?i_RankingD_containsD ?l_RankingD_containsD ?c_RankingD_containsD ?k_RankingD_containsD ?a_RankingD_lenD ?i_RankingD_lenD ?l_RankingD_lenD ?c_RankingD_lenD ?k_RankingD_lenD ?a_RankingD_strD ?i_RankingD_strD ?l_RankingD_strD ?c_RankingD_strD ?k_RankingD_strD ?a_RankingD_reprD ?i_RankingD_reprD ?l_RankingD_reprD ?c_RankingD_reprD ?k_RankingD_reprD ?a_RankingD_eqD ?i_RankingD_eqD ?l_RankingD_eqD ?c_RankingD_eqD ?k_RankingD_eqD ?a_l_purse ?l_l_purse ?c_l_purse ?k_l_purse ?a_l_draw ?l_l_draw ?c_l_draw ?k_l_draw ?a_l_things ?l_l_things ?c_l_things ?k_l_things ?a_l_order ?l_l_order ?c_l_order ?k_l_order ?a_l_near ?l_l_near ?c_l_near ?k_l_near ?a_l_made ?l_l_made ?c_l_made ?k_l_made ?a_l_shown ?l_l_shown ?c_l_shown ?k_l_shown ?a_l_right ?l_l_right ?c_l_right ?k_l_right ?a_law ?l_law ?c_law ?k_law ?v_MOST_THINGS ?v_LETTERS ?v_DIGITS ?v_LONGEST_NAME ?z_len ?z_isinstance ?z_all ?z_enumerate ?z_tuple ?z_sorted ?z_abs ?z_int ?z_divmod ?z_range ?z_list ?z_max ?z_min ?z_str ?z_bool ?z_repr ?z_zip
    (case cg_Ranking => k_is)
    (case cp_Ranking => k_is)
    (case ch_Ranking => k_is)
    (case co_Ranking => k_is)
    (case cs_Ranking => k_is)
    (case cm_Ranking => k_is)
    (case ck_Ranking => k_is)
    (case cne_Ranking => k_is)
    (case cob_Ranking => k_is)
    (case cca_Ranking => k_is)
    (case ccb_Ranking => k_is)
    (case ccc_Ranking => k_is)
    (case cbo_Ranking => k_is)
    (case cfm_Ranking => k_is)
    (case crd_Ranking => k_is)
    (case cty_Ranking => k_is)
    (case cga_Ranking => k_is)
    (case cn_Ranking__row => k_is)
    (case cn_Ranking__things => k_is)
    (case a_is_index => k_is)
    (case l_is_index => k_is)
    (case c_is_index => k_is)
    (case k_is_index => k_is)
    (case a_is_name => k_is)
    (case l_is_name => k_is)
    (case c_is_name => k_is)
    (case k_is_name => k_is)
    (case a_is_filled_tuple => k_is)
    (case l_is_filled_tuple => k_is)
    (case c_is_filled_tuple => k_is)
    (case k_is_filled_tuple => k_is)
    (case a_is_one_of => k_is)
    (case l_is_one_of => k_is)
    (case c_is_one_of => k_is)
    (case k_is_one_of => k_is)
    (case a_first_wrong_in_row => k_is)
    (case l_first_wrong_in_row => k_is)
    (case c_first_wrong_in_row => k_is)
    (case k_first_wrong_in_row => k_is)
    (case a_check_row => k_is)
    (case l_check_row => k_is)
    (case c_check_row => k_is)
    (case k_check_row => k_is)
    (case a_RankingD_initD => k_is)
    (case i_RankingD_initD => k_is)
    (case l_RankingD_initD => k_is)
    (case c_RankingD_initD => k_is)
    (case k_RankingD_initD => k_is)
    (case a_Ranking_of => k_is)
    (case pr_Ranking_of => k_is)
    (case fi_Ranking_of => k_is)
    (case l_Ranking_of => k_is)
    (case c_Ranking_of => k_is)
    (case k_Ranking_of => k_is)
    (case a_Ranking_read => k_is)
    (case pr_Ranking_read => k_is)
    (case fi_Ranking_read => k_is)
    (case l_Ranking_read => k_is)
    (case c_Ranking_read => k_is)
    (case k_Ranking_read => k_is)
    (case a_Ranking_row => k_is)
    (case pg_Ranking_row => k_is)
    (case pt_Ranking_row => k_is)
    (case pr_Ranking_row => k_is)
    (case l_Ranking_row => k_is)
    (case c_Ranking_row => k_is)
    (case k_Ranking_row => k_is)
    (case a_Ranking_things => k_is)
    (case pg_Ranking_things => k_is)
    (case pt_Ranking_things => k_is)
    (case pr_Ranking_things => k_is)
    (case l_Ranking_things => k_is)
    (case c_Ranking_things => k_is)
    (case k_Ranking_things => k_is)
    (case a_RankingD_getitemD => k_is)
    (case i_RankingD_getitemD => k_is)
    (case fi_RankingD_getitemD => k_is)
    (case l_RankingD_getitemD => k_is)
    (case c_RankingD_getitemD => k_is)
    (case k_RankingD_getitemD => k_is)
    (case a_RankingD_containsD => k_is)
    (case i_RankingD_containsD => k_is)
    (case l_RankingD_containsD => k_is)
    (case c_RankingD_containsD => k_is)
    (case k_RankingD_containsD => k_is)
    (case a_RankingD_lenD => k_is)
    (case i_RankingD_lenD => k_is)
    (case l_RankingD_lenD => k_is)
    (case c_RankingD_lenD => k_is)
    (case k_RankingD_lenD => k_is)
    (case a_RankingD_strD => k_is)
    (case i_RankingD_strD => k_is)
    (case l_RankingD_strD => k_is)
    (case c_RankingD_strD => k_is)
    (case k_RankingD_strD => k_is)
    (case a_RankingD_reprD => k_is)
    (case i_RankingD_reprD => k_is)
    (case l_RankingD_reprD => k_is)
    (case c_RankingD_reprD => k_is)
    (case k_RankingD_reprD => k_is)
    (case a_RankingD_eqD => k_is)
    (case i_RankingD_eqD => k_is)
    (case l_RankingD_eqD => k_is)
    (case c_RankingD_eqD => k_is)
    (case k_RankingD_eqD => k_is)
    (case a_l_purse => k_is)
    (case l_l_purse => k_is)
    (case c_l_purse => k_is)
    (case k_l_purse => k_is)
    (case a_l_draw => k_is)
    (case l_l_draw => k_is)
    (case c_l_draw => k_is)
    (case k_l_draw => k_is)
    (case a_l_things => k_is)
    (case l_l_things => k_is)
    (case c_l_things => k_is)
    (case k_l_things => k_is)
    (case a_l_order => k_is)
    (case l_l_order => k_is)
    (case c_l_order => k_is)
    (case k_l_order => k_is)
    (case a_l_near => k_is)
    (case l_l_near => k_is)
    (case c_l_near => k_is)
    (case k_l_near => k_is)
    (case a_l_made => k_is)
    (case l_l_made => k_is)
    (case c_l_made => k_is)
    (case k_l_made => k_is)
    (case a_l_shown => k_is)
    (case l_l_shown => k_is)
    (case c_l_shown => k_is)
    (case k_l_shown => k_is)
    (case a_l_right => k_is)
    (case l_l_right => k_is)
    (case c_l_right => k_is)
    (case k_l_right => k_is)
    (case a_law => k_is)
    (case l_law => k_is)
    (case c_law => k_is)
    (case k_law => k_is)
    (case v_MOST_THINGS => k_is)
    (case v_LETTERS => k_is)
    (case v_DIGITS => k_is)
    (case v_LONGEST_NAME => k_is)
    (case z_len => k_is)
    (case z_isinstance => k_is)
    (case z_all => k_is)
    (case z_enumerate => k_is)
    (case z_tuple => k_is)
    (case z_sorted => k_is)
    (case z_abs => k_is)
    (case z_int => k_is)
    (case z_divmod => k_is)
    (case z_range => k_is)
    (case z_list => k_is)
    (case z_max => k_is)
    (case z_min => k_is)
    (case z_str => k_is)
    (case z_bool => k_is)
    (case z_repr => k_is)
    (case z_zip => k_is)
