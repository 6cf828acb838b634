import PyProof.Rows.All
import Wide.All
import OpenK.AllK
import Wide.FinOn
import HandS.ForMost
import HandS.IsInst
import HandS.Property
import HandS.TupAny
import HandS.Strs
import HandS.Conv
import HandS.Defaults
import KE.GoesEnum
import HandS.Walk
import PyProof.ReprLen
import PyProof.StrLawsRepr
import PyProof.FitsInt
import PySem.Challenge.RW_menuhouses_k05_best_and_below
set_option Elab.async false
set_option linter.all false
set_option maxRecDepth 100000
set_option maxHeartbeats 4000000
/-! Own rules beside the layer: promises that know that no repr is under way (FnG), repr of data, sorted of a tuple of texts, enumerate of a tuple, o.m(k = v). -/
namespace MH
open PySem PySem.Spec PyProof.Rows L2

/-! ### promises of defs that are called while no repr is under way -/
def FnG (P : Program) (w : World) (K : PySem.W.Frag) (mg : Str → Option Value) (base : Heap) (k : Nat) (f : Addr) (sp : Sp) : Prop :=
  ∀ (A : Around) (fr : List Env) (st : Shared) (H : Hp) (us : List Value) (vs : List V) (Q : VK), A.guards = some [] → Room k A → Env0 P w K mg base A fr st H → Vals vs us →
    sp vs H Q E0 → codeAny (model P w) A (.call (.ref f) ⟨us, []⟩) (CR CX0 fr P w H st Q E0) st

theorem guards_deeper {A : Around} {env : Env} (h : A.guards = some []) : (A.deeper env).guards = some [] := h

section
variable {P : Program} {w : World} {K : PySem.W.Frag} {mg : Str → Option Value} {base : Heap} {k : Nat} {f : Addr} {sp : Sp}
theorem FnG.mono {j : Nat} (F : FnG P w K mg base j f sp) (h : j ≤ k) : FnG P w K mg base k f sp := fun A fr st H us vs Q hg hr => F A fr st H us vs Q hg (hr.mono h)

theorem fg_of {name qual : Str} {pms : Arguments} {body : List Stmt} {sc : Scope} {dV kV doc pm cdv ct oc : Value} {an od : Option Addr} {osl : Array (Option Value)} {N ps : List Str}
    (lk : K.lookup f = some ⟨oc, od, .func (PySem.W.fnOf name qual pms body sc dV kV doc pm an cdv ct), osl⟩) (hc : PySem.W.codeIn K cdv qual = true) (S : FnScope N ps sc)
    (hB : Binds K (PySem.W.fnOf name qual pms body sc dV kV doc pm an cdv ct) ps []) (hlen : ∀ vs H Q E, sp vs H Q E → vs.length = ps.length)
    (hbd : ∀ (A : Around) (fr : List Env) (st : Shared) (H : Hp) (vs : List V) (Q : VK), A.guards = some [] → Room k (A.deeper (envOfC qual sc st.heap.objs.size f cdv)) → sp vs H Q E0 →
      ∃ t, PSs (cxOf CX0 P w K mg base N qual sc f cdv A fr st H E0).nox body t ∧ t { nx := fun _ H' => Q .non H', rt := Q } (start N vs) H) :
    FnG P w K mg base (k + 1) f sp := by
  intro A fr st H us vs Q hg hr e0 r hs
  have hl := hlen _ _ _ _ hs
  have hul : (us ++ []).length = ps.length := by
    rw [List.append_nil, ← r.length, hl]
  have KX : K.In st.heap := e0.mod.kin.keeps fun b o e => (e0.bs b o e).1
  have nl : st.heap.NoLimit := e0.mod.nolimit.keeps fun b o e => (e0.bs b o e).1
  have hk : ∀ y ∈ ps.zip us, sc.names.lookup y.1 = some .local ∨ (sc.names.lookup y.1 = some .cell ∧ ((cellsFrom (st.heap.objs.size + 1) sc.names []).lookup y.1).isSome = true) := by
    intro y hy
    rcases S.par y.1 (List.of_mem_zip hy).1 with q | q
    · exact .inl q
    · exact .inr ⟨q, PySem.W.cellsFrom_some _ _ _ (.inl q)⟩
  have hb2 := hB st us KX hul
  rw [List.append_nil] at hb2
  refine codeAny_call_function hr.depth (KX _ _ lk) rfl S.co S.gen rfl (PySem.W.codeRec_of KX hc) (hb2 _ _ _ _ ?_)
  refine wpAny_newFunctionEnv_cells S.kind hk fun env he s1 x => ?_
  subst he
  refine ⟨nl.keeps x.toInCall.keep, codeAny_func ?_⟩
  obtain ⟨t, ht, hq⟩ := hbd A fr st H vs Q hg (hr.deeper _) hs
  have J : Inv (cxOf CX0 P w K mg base N qual sc f cdv A fr st H E0) [] (start N vs) H s1 := inv_start S hr.hd e0 hl r x
  refine wpAny_mono (ht.nox.run [] s1 (start N vs) H _ J hq) (fun fl s' hz => ?_) fun e s' hz => hz
  cases fl with
  | ret u =>
    obtain ⟨v, σ', H', J', rv, q⟩ := hz
    exact ⟨v, H', J'.os, J'.bare, J'.base, J'.hok, rv, q⟩
  | next =>
    obtain ⟨σ', H', J', q⟩ := hz
    exact ⟨.non, H', J'.os, J'.bare, J'.base, J'.hok, rfl, q⟩
  | brk => exact (hz.choose_spec.choose_spec.2 : False).elim
  | cont => exact (hz.choose_spec.choose_spec.2 : False).elim

/-- the def's rule, by its text -/
theorem fun_g {x qual : Str} {st : Stmt} {fd : FuncData} {N ps : List Str} (F : Fun K x qual st f fd) (S : FnScope N ps (defScope st)) (hB : Binds K fd ps []) (hlen : ∀ vs H Q E, sp vs H Q E → vs.length = ps.length)
    (hbd : ∀ (cdv : Value) (A : Around) (fr : List Env) (s : Shared) (H : Hp) (vs : List V) (Q : VK), A.guards = some [] → Room k (A.deeper (envOfC qual (defScope st) s.heap.objs.size f cdv)) → sp vs H Q E0 →
      ∃ t, PSs (cxOf CX0 P w K mg base N qual (defScope st) f cdv A fr s H E0).nox (defBody st) t ∧ t { nx := fun _ H' => Q .non H', rt := Q } (start N vs) H) :
    FnG P w K mg base (k + 1) f sp := by
  obtain ⟨oc, od, kV, doc, pm, an, cdv, ct, osl, rfl, lk, hc⟩ := F.ex
  exact fg_of lk hc S hB hlen fun A fr s H vs Q hg hr hs => hbd cdv A fr s H vs Q hg hr hs
end

/-- a promise that holds anyway holds while no repr is under way -/
theorem FnOk.toG {P : Program} {w : World} {K : PySem.W.Frag} {mg : Str → Option Value} {base : Heap} {k : Nat} {f : Addr} {fd : FuncData} {ps : List Str} {sp : Sp} (F : FnOk P w K mg base CX0 k f fd ps sp) (hB : Binds K fd ps []) :
    FnG P w K mg base k f sp := fun A fr st H us vs Q _ hr e0 r hs => by
  have KX : K.In st.heap := e0.mod.kin.keeps fun b o e => (e0.bs b o e).1
  have hl : (us ++ []).length = ps.length := by rw [List.append_nil, ← r.length, F.len _ _ _ _ hs]
  have hb2 := hB st us KX hl
  rw [List.append_nil] at hb2
  exact F.run A fr st H ⟨us, []⟩ us vs Q E0 hr e0 hb2 r hs

section
variable {X : Cx} {k : Nat} {f : Addr} {sp : Sp} {x : Str} {p pos : Pos} {e : Expr} {es : List Expr} {t : TA}
/-- f(e, ..) -/
theorem pe_callg (F : FnG X.prog X.w X.K X.mg X.base k f sp) (hg : X.A.guards = some []) (hr : Room k X.A) (gl : Gl X x) (hm : X.mg x = some (.ref f)) (hk : PySem.W.keepIn X.K (.ref f) = true)
    (ha : PA X (e :: es) t) (hdb : (x == ("__debug__" : Str)) = false := by decide) (he : starEach (e :: es) X.env = (false, eval e X.env) :: starEach es X.env := by rfl) (hpl : (backTo pos (starEach es X.env)).any (·.1) = false := by rfl) :
    PE X (.Call (.Name x p) (e :: es) [] pos) (tCall sp [] E0 t) := by
  refine ⟨fun pins s σ H Q I h => ?_⟩
  refine wpAny_Call_Name_kw (ld_glob I gl hm ?_ hdb)
  refine PySem.W.callWith_K (h₀ := X.base) I.ok.mod.kin hk (thn (ha.run pos pins s σ H _ I h) fun us s1 ⟨vs, H1, I1, r, q⟩ => ⟨I1.kIn, ?_⟩) he hpl
  have q1 : sp vs H1 Q E0 := by
    have z : sp (vs ++ []) H1 Q E0 := q
    rw [List.append_nil] at z
    exact z
  refine wpAny_call (codeAny_mono (F X.A X.stack s1 H1 us vs Q hg hr I1.env0 r q1) fun r s' hq => ?_)
  match r, hq with
  | .ok (.ret u), hq => exact I1.after hq
  | .ok .next, hq => exact False.elim hq
  | .ok .brk, hq => exact False.elim hq
  | .ok .cont, hq => exact False.elim hq
  | .error _, hq => exact False.elim hq
end

/-! ### repr of data -/
def rRepr (K : PySem.W.Frag) : List V → Hp → VK → Prop := fun xs H Q => ∃ (a : Addr) (d : PyData), xs = [.ref a] ∧ Dp K H (.ref a) d ∧ d.showable = true ∧ d.hasDict = false ∧ d.depth ≤ 60 ∧ d.shown.length ≤ sizeLine ∧ Q (.str d.shown) H
section
variable {X : Cx}
theorem call_reprD (hg : X.A.guards = some []) (hu : X.A.units + 64 < cLine) : CallR X (.builtin "repr") (rRepr X.K) := by
  intro pins s σ H xs us Q I r h
  obtain ⟨a, d, rfl, hd, h1, h2, h3, h4, q⟩ := h
  obtain ⟨u, rfl, ru⟩ := vals1 r
  obtain ⟨as, rd⟩ := Dp.reads I d _ _ hd ru
  obtain rfl : u = Value.ref a := ru
  exact repr_of_reads' rd h1 (PyData.noDict_hsm h2) hg (by omega) (fun _ _ e => e) (fun h' u tk hk => ⟨.str d.shown, H, I.kept hk, ⟨_, rfl⟩, q⟩) h4
end

/-! ### sorted of a tuple of texts -/
section
variable {prog : Program} {w : World} {A : Around} {E : Value → Shared → Prop} {s : Shared}
theorem collect_tup {t : Addr} {us : List Value} {Q : List Value → Shared → Prop} (ht : s.heap.IsTuple t us.toArray) (hz : us.length ≤ sizeLine)
    (k : Q us { s with heap := (s.heap.push (seqObj "list" #[] 0)).update s.heap.objs.size (Obj.mapSeq (· ++ us.toArray)) }) :
    wpAny (model prog w) A (collect (.ref t)) Q E s := by
  obtain ⟨o, ho, hc, n, hd⟩ := id ht
  have new0 : ∀ x : Addr, x = s.heap.objs.size → (s.heap.push (seqObj "list" #[] 0)).get? x = some (seqObj "list" #[] 0) := fun x e => by
    rw [e]
    exact Heap.get?_push_size _ rfl
  have old : (s.heap.push (seqObj "list" #[] 0)).get? t = some o := Heap.get?_push_of_some _ ho
  unfold collect
  refine wpAny_bind (wpAny_runValue (codeAny_builtin entry_proto_collect' ?_))
  show wpAny _ _ (newList [] >>= fun l => again (.builtin "list.__iadd__" ⟨[l, .ref t], []⟩)) _ _ s
  refine wpAny_bind (wpAny_newList (wpAny_pure ⟨Code.quiet_builtin _ (by decide +kernel), codeAny_builtin entry_list_iadd' ?_⟩))
  refine (show wpAny _ _ (Builtin.List.listExtendWith (.ref s.heap.objs.size) (.ref t) (.ref s.heap.objs.size)) _ _ { s with heap := s.heap.push (seqObj "list" #[] 0) } from ?_)
  unfold Builtin.List.listExtendWith
  refine wpAny_bind (wpAny_typeOf (T := "tuple") ⟨o, old, hc⟩ ?_)
  have b2 : (Value.type "tuple" == Value.type "tuple") = true := by rfl
  rw [if_pos (by rw [b2]; simp)]
  refine wpAny_bind (listItems_at old hd ?_)
  refine wpAny_bind (listItems_at (xs := #[]) (n := 0) (new0 _ rfl) rfl ?_)
  rw [if_neg (by simp)]
  have hz2 : (#[] ++ us.toArray).size ≤ sizeLine + 1 := by
    simp only [Array.size_append, List.size_toArray, List.length_nil]
    omega
  refine wpAny_bind (listUpdate_at (xs := #[]) (n := 0) (new0 _ rfl) rfl ?_ (Nat.zero_le _) hz2)
  refine wpAny_pure ?_
  refine (show wpAny (model prog w) A (load s.heap.objs.size >>= fun o => match o.data with
      | .seq xs _ => pure xs.toList
      | _ => unsupported "internal:collect") Q E { s with heap := (s.heap.push (seqObj "list" #[] 0)).update s.heap.objs.size (Obj.mapSeq (· ++ us.toArray)) } from ?_)
  refine wpAny_bind (wpAny_load (get?_update_seq (new0 _ rfl) _) ?_)
  have e : ((#[] : Array Value) ++ us.toArray).toList = us := by simp
  refine (show wpAny _ _ (pure ((#[] : Array Value) ++ us.toArray).toList) Q E _ from ?_)
  rw [e]
  exact wpAny_pure k

theorem sorted_tup {t : Addr} {us : List Value} {ss : List Str} {Q : Value → Shared → Prop} (ht : s.heap.IsTuple t us.toArray) (hS : StrsAre us ss) (h64 : us.length < 64)
    (k : ∀ (out : Array Value) (ys : List Str), StrsAre out.toList ys → ys.Perm ss → sortedS ys = true → Q (.ref (s.heap.objs.size + 1)) { s with heap := sortedAll s.heap us out }) :
    wpAny (model prog w) A (call (.builtin "sorted") [.ref t]) Q E s := by
  refine Calls.call_function_entry kind_sorted plain_sorted entry_sorted (args_sorted1 _) ?_
  unfold Builtin.«sorted»
  refine wpAny_bind (m := checkCount "sorted" 1 1 _) (wpAny_pure ?_)
  refine wpAny_bind (collect_tup ht (small64 h64) (wpAny_bind (wpAny_newList ?_)))
  have size1 : ((s.heap.push (seqObj "list" #[] 0)).update s.heap.objs.size (Obj.mapSeq (· ++ us.toArray))).objs.size = s.heap.objs.size + 1 := by
    rw [Heap.size_update, size_push']
  have at1 : (((s.heap.push (seqObj "list" #[] 0)).update s.heap.objs.size (Obj.mapSeq (· ++ us.toArray))).push (seqObj "list" us.toArray 0)).get? (s.heap.objs.size + 1) = some (seqObj "list" us.toArray 0) := by
    rw [← size1]
    exact Heap.get?_push_size _ rfl
  refine (show wpAny _ _ _ _ _ { s with heap := ((s.heap.push (seqObj "list" #[] 0)).update s.heap.objs.size (Obj.mapSeq (· ++ us.toArray))).push (seqObj "list" us.toArray 0) } from ?_)
  rw [size1]
  refine wpAny_bind (wpAny_holding (wpAny_call_entry slot_list_sort ⟨_, at1, rfl⟩ entry_list_sort
    (list_sort_treeK strKind_oneLt at1 hS.keysOf (fun v1 v2 rest e => keyKind_strs (by rw [← e]; exact hS)) h64 fun st hp hs => ⟨_, rfl, ?_⟩) (args_list_sort _)))
  obtain ⟨ys, h1, h2, h3⟩ := sorted_out_str hS hp hs
  exact wpAny_pure ⟨_, rfl, k _ ys h1 h2 h3⟩
end
def rSortedU (K : PySem.W.Frag) : List V → Hp → VK → Prop := fun vs H Q => ∃ (a : Addr) (xs : List Str), vs = [V.ref a] ∧ SqT K H a (xs.map V.str) ∧ xs.length < 64 ∧ ∀ (ys : List Str) (p : Addr), ys.Perm xs → sortedS ys = true → H p = none → Q (.ref p) (upd H p (.lst (ys.map V.str)))
section
variable {X : Cx}
theorem cr_sortedU : CallR X (.builtin "sorted") (rSortedU X.K) := by
  intro pins s σ H vs us Q I r h
  obtain ⟨a, xs, rfl, hs, h64, q⟩ := h
  obtain ⟨its, rv, ht, _⟩ := I.tuple hs
  rw [Vals.ref1 r]
  have hl0 : xs.length = its.length := by
    have z := rv.length
    rw [List.length_map] at z
    exact z
  refine sorted_tup (s := s) ht rv.strs (hl0 ▸ h64) fun out ys h1 h2 h3 => ?_
  obtain ⟨ep, he⟩ := sortedAll_at s.heap its out
  have hz : (ys.map V.str).length ≤ sizeLine := by
    rw [List.length_map, h2.length_eq]
    exact small64 h64
  refine ⟨.ref _, upd H (s.heap.objs.size + 1) (.lst (ys.map V.str)), ?_, rfl, q ys _ h2 h3 (I.hok.fresh (Nat.le_succ _))⟩
  exact I.laid (t' := s.toks) (fun _ _ => sortedAll_old) (Nat.le_succ _) ⟨hz, out.toList, ep, vals_of_strs h1, he⟩
end

/-! ### enumerate of a tuple -/
theorem enum_tup_new {t : Addr} {items : Array Value} : Meets (Builtin.«enumerate.__new__» ⟨[.type "enumerate", .ref t], []⟩) (fun _ R s => s.heap.IsTuple t items ∧
      R (.ok (.ret (.ref (s.heap.push { cls := .type "tuple_iterator", data := .fields #[.ref t, .int 0 0] }).objs.size)))
        { s with heap := (s.heap.push { cls := .type "tuple_iterator", data := .fields #[.ref t, .int 0 0] }).push { cls := .type "enumerate", data := .fields #[.none, .bool false, .ref s.heap.objs.size, rawInt 0, .none, .none] } }) :=
  .of_wp fun prog w A R s h => by
    obtain ⟨hp, g, d, tk, os⟩ := s
    obtain ⟨hT, k⟩ := h
    have hsub := sub_enumerate
    have it : ∀ {A' : Around} {E Q : Value → Shared → Prop}, Q (.ref hp.objs.size) ⟨hp.push { cls := .type "tuple_iterator", data := .fields #[.ref t, .int 0 0] }, g, d, tk, os⟩ → wpAny (model prog w) A' (pyIter (.ref t)) Q E ⟨hp, g, d, tk, os⟩ :=
      fun q => wpAny_pyIter_tuple (items := items) hT q
    wp_walk using it
    refine wpAny_stack_any fun st => wpAny_pure ?_
    split
    · rename_i c _ _ _ _ _
      cases (c == Value.type "enumerate") <;> (wp_walk using it; exact ⟨_, rfl, k⟩)
    · wp_walk using it
      exact ⟨_, rfl, k⟩
section
variable {prog : Program} {w : World} {A : Around} {E : Value → Shared → Prop} {s : Shared}
theorem call_enum_tup {t : Addr} {items : Array Value} {Q : Value → Shared → Prop} (hT : s.heap.IsTuple t items)
    (k : ∀ h', IsEnum h' (s.heap.objs.size + 1) s.heap.objs.size 0 .none → h'.IsTupleIter s.heap.objs.size t 0 → h'.objs.size = s.heap.objs.size + 2 →
      (∀ b o, s.heap.get? b = some o → h'.get? b = some o) → Q (.ref (s.heap.objs.size + 1)) { s with heap := h' }) :
    wpAny (model prog w) A (call (.type "enumerate") [.ref t]) Q E s := by
  refine callType_new F.called_enumerate (by decide) (F.typeCall_enumerate_1 _) (F.newCall_enumerate_1 _) (fun obj => F.args_object_init_2 obj _) F.entry_enumerate_new enum_tup_new ⟨hT, ?_⟩
  have hz : (s.heap.push { cls := .type "tuple_iterator", data := .fields #[.ref t, .int 0 0] }).objs.size = s.heap.objs.size + 1 := Heap.size_push ..
  refine (show _ ∧ _ from ?_)
  rw [hz]
  have he := Heap.get?_push_size (s.heap.push { cls := .type "tuple_iterator", data := .fields #[.ref t, .int 0 0] }) (o := { cls := .type "enumerate", data := .fields #[.none, .bool false, .ref s.heap.objs.size, rawInt 0, .none, .none] }) rfl
  rw [hz] at he
  refine ⟨⟨_, he, rfl⟩, k _ he ⟨_, Heap.get?_push_of_some _ (Heap.get?_push_size _ rfl), rfl, rfl⟩ ?_ fun b o x => Heap.get?_push_of_some _ (Heap.get?_push_of_some _ x)⟩
  rw [Heap.size_push, hz]
end
theorem wpAny_pyNext_enum_none {prog : Program} {w : World} {A : Around} {E : Value → Shared → Prop} {s : Shared} {e it t : Addr} {i : Nat} {items : Array Value} {old : Value} {Q : Option Value → Shared → Prop} (hh : A.in1.handled = none) (he : IsEnum s.heap e it i old) (hit : s.heap.IsTupleIter it t i) (ht : s.heap.IsTuple t items)
    (hx : items[i]? = none) (k : ∀ h', Heap.ExtBut it s.heap h' → Q none { s with heap := h' }) : wpAny (model prog w) A (pyNext (.ref e)) Q E s := by
  have ty : s.TypeIs (.ref e) "enumerate" := ⟨_, he, rfl⟩
  unfold pyNext
  refine wpAny_bind (wpAny_attempt (wpAny_callSpecial?_slot (name := Str.ofString "__next__") ty F.slot_enumerate_next
    (wpAny_call_entry F.slot_enumerate_next ty F.entry_enumerate_next ?_ (F.args_enumerate_next_1 _))))
  refine (show wpAny _ _ (field (.ref e) 2 >>= _) _ _ _ from ?_)
  refine wpAny_bind (wpAny_field he rfl (x := .ref it) rfl ?_)
  refine wpAny_bind (wpAny_nextOf_tuple_end hh hit ht hx fun h' x eb hx' => ?_)
  obtain ⟨o, ho, hc⟩ := hx'
  refine wpAny_bind (wpAny_isInstance (T := "StopIteration") (b := true) ⟨o, ho, hc⟩ isSubtype_stop ?_)
  exact wpAny_pure (k _ eb)
/-- the tuple at a, each item in a new pair behind its index -/
def IteT (K : PySem.W.Frag) (a : Addr) : It where
  go := fun i H => ∃ xs x, SqT K H a xs ∧ xs[i]? = some x
  yld := fun i H v H' => ∃ T x, v = .ref T ∧ H T = none ∧ H' = upd H T (.tup [.int (i : Nat), x]) ∧ ∀ xs, SqT K H a xs → xs[i]? = some x
  stop := fun i H => ∃ xs, SqT K H a xs ∧ xs.length ≤ i
theorem turn_enumT {P : Program} {w : World} {K : PySem.W.Frag} {elts : List Expr} {kk : Nat} {tpos : Pos} (a e it : Addr) :
    Turn P w K (.Tuple elts kk tpos) (IteT K a) [e, it] e (fun i h => (∃ old, IsEnum h e it ((i : Nat) : Int) old) ∧ h.IsTupleIter it a i ∧ e ≠ it) where
  mem := List.mem_cons_self
  obj := by
    rintro i h ⟨⟨old, he⟩, ⟨o, ho, hc, hd⟩, _⟩ b hb
    have e' : b = e ∨ b = it := by simpa using hb
    rcases e' with rfl | rfl
    · exact ⟨_, he, fun v q => nomatch q⟩
    · refine ⟨o, ho, fun v q => ?_⟩
      rw [hd] at q
      cases q
  keep := fun i h h' st k => ⟨⟨st.1.choose, k e (by simp) _ st.1.choose_spec⟩, st.2.1.at fun o q => k it (by simp) o q, st.2.2⟩
  item := by
    intro X hP hw hK hc i pins s σ H E I hf st hg
    subst hP hw hK
    obtain ⟨⟨old, he⟩, hit, hne⟩ := st
    obtain ⟨xs, x, hq, hx⟩ := hg
    obtain ⟨its, rv, p, hz⟩ := I.tuple hq
    obtain ⟨u, hu, ru⟩ := rv.get hx
    have hel : e < s.heap.objs.size := Heap.lt_size he
    have hil : it < s.heap.objs.size := by
      obtain ⟨_, q, _⟩ := hit
      exact Heap.lt_size q
    obtain ⟨ot, hot, hct, _⟩ := id (show s.heap.IsTuple a its.toArray from p)
    have hae : e ≠ a := fun q => by
      have z : s.heap.get? e = some ot := q ▸ hot
      rw [he] at z
      cases z
      exact absurd (show Value.type "enumerate" = Value.type "tuple" from hct) (by decide)
    have hait : a ≠ it := fun q => by
      obtain ⟨o2, h2, c2, _⟩ := hit
      rw [← q, hot] at h2
      cases h2
      rw [hct] at c2
      exact absurd c2 (by decide)
    have hlt : i < its.toArray.size := by
      have := (List.getElem?_eq_some_iff.mp hu).1
      simpa using this
    have hh : X.A.in1.handled = none := I.ok.hd hc
    refine wpAny_pyNext_enum_itemD (Draws.tuple hh it a hait its.toArray) he ⟨hit, p⟩ hlt hne (by simp [hne, hae]) fun y h' tk hy ho hst hT hsz hk => ?_
    have hyu : y = u := by
      have z : its.toArray[i]? = some y := hy
      rw [List.getElem?_toArray, hu] at z
      exact (Option.some.inj z).symm
    subst hyu
    refine ⟨_, rfl, wpAny_letOwnedTupleGo_enum (s := { s with heap := h', toks := tk + 1 }) ho fun h'' he' sb => ?_⟩
    have hT2 : h''.get? s.heap.objs.size = some { cls := .type "tuple", data := .seq #[.int i tk, y] } := (sb.2 _ (Nat.ne_of_gt hel)).trans hT
    have new : ObjOk X.prog X.w (upd H s.heap.objs.size (.tup [.int (i : Nat), x])) h'' s.heap.objs.size (.tup [.int (i : Nat), x]) :=
      ⟨(by decide : 2 ≤ sizeLine), [.int i tk, y], .cons ⟨_, rfl⟩ (.cons ru .nil), ⟨_, hT2, rfl, _, rfl⟩⟩
    have I1 : Inv X pins σ (upd H s.heap.objs.size (.tup [.int (i : Nat), x])) { s with heap := h'', toks := tk + 1 } := by
      refine I.turnedNew (ch := [e, it]) (fun b ob hb q => ?_) hf (Nat.le_refl _) new
      rw [sb.2 b (fun z => hb (by simp [z]))]
      exact hk b ob (fun z => hb (by simp [z])) (fun z => hb (by simp [z])) q
    refine ⟨.ref s.heap.objs.size, _, I1, rfl, ⟨_, x, rfl, I.hok.fresh (Nat.le_refl _), rfl, fun ys hy => by rw [I.tuple_inj hy hq]; exact hx⟩, ⟨⟨y, ?_⟩, ?_, hne⟩, fun b hb => ?_⟩
    · rw [show ((i + 1 : Nat) : Int) = (i : Int) + 1 from by omega]
      exact he'
    · exact hst.1.at fun o q => (sb.2 it (Ne.symm hne)).trans q
    · have hb' : b < s.heap.objs.size := by
        have e' : b = e ∨ b = it := by simpa using hb
        rcases e' with z | z
        · rw [z]
          exact hel
        · rw [z]
          exact hil
      rw [upd_ne (Nat.ne_of_lt hb')]
      exact (hf b hb).1
  done := by
    intro X hP hw hK hc i pins s σ H E I hf st hg
    subst hP hw hK
    obtain ⟨⟨old, he⟩, hit, hne⟩ := st
    obtain ⟨xs, hq, hx⟩ := hg
    obtain ⟨its, rv, p, hz⟩ := I.tuple hq
    obtain ⟨f0, f1, f2, f3, f4, f5⟩ := hf it (by simp)
    have hh : X.A.in1.handled = none := I.ok.hd hc
    have hl := rv.length
    obtain ⟨ot, hot, hct, _⟩ := id (show s.heap.IsTuple a its.toArray from p)
    have hait : a ≠ it := fun q => by
      obtain ⟨o2, h2, c2, _⟩ := hit
      rw [← q, hot] at h2
      cases h2
      rw [hct] at c2
      exact absurd c2 (by decide)
    refine wpAny_pyNext_enum_none hh he hit p (by simp; omega) fun h' eb => ⟨rfl, I.turned (t' := s.toks) (fun b o hb q => eb b o hb q) f0 f1 f3 f4 f5⟩
  self := fun A i s Q E st h => wpAny_pyIter_enum st.1.choose_spec h
def iEnumT (K : PySem.W.Frag) (ta : TA) : TI := fun σ H R => ta σ H fun vs H1 => ∃ a xs, vs = [.ref a] ∧ SqT K H1 a xs ∧ R (IteT K a) H1
theorem pi_enumT {X : Cx} {e : Expr} {ta : TA} {p pos tpos : Pos} {elts : List Expr} {kk : Nat} (hg : Gl X "enumerate") (hm : X.mg "enumerate" = none) (ha : PA X [e] ta) (hs : starEach [e] X.env = [(false, eval e X.env)] := by rfl) :
    PI X (.Tuple elts kk tpos) (.Call (.Name "enumerate" p) [e] [] pos) (iEnumT X.K ta) := by
  refine ⟨fun pins s σ H R I h => ?_⟩
  refine Call_ (ld_blt I hg hm boot_enumerate (PyProof.Rows.callWith_type1 (thn (ha.run pos pins s σ H _ I h) fun us s1 ⟨vs, H1, I1, r1, a, xs, ex, hq, q⟩ => ?_) hs rfl))
  subst ex
  obtain ⟨u, rfl, ru⟩ := vals1 r1
  obtain rfl : u = Value.ref a := ru
  obtain ⟨its, rv, p', hz⟩ := I1.tuple hq
  refine call_enum_tup (show s1.heap.IsTuple a its.toArray from p') fun h' he hit hsz hk => wpAny_pyIter_enum he ?_
  have I2 : Inv X pins σ H1 { s1 with heap := h' } := I1.kept (t' := s1.toks) hk
  refine ⟨s1.heap.objs.size + 1, [s1.heap.objs.size + 1, s1.heap.objs.size], _, _, H1, rfl, I2, turn_enumT a (s1.heap.objs.size + 1) s1.heap.objs.size, ⟨⟨.none, he⟩, hit, Nat.succ_ne_self _⟩, fun b hb => ?_, q⟩
  have e' : b = s1.heap.objs.size + 1 ∨ b = s1.heap.objs.size := by simpa using hb
  have hle : s1.heap.objs.size ≤ b := by
    rcases e' with z | z
    · rw [z]
      exact Nat.le_succ _
    · rw [z]
      exact Nat.le_refl _
  exact I1.fpOk hle (I1.hok.fresh hle)

/-! ### o.m(k = v, ..) -/
def tMethK (C : Addr) (m : Str) (n : Nat) (sp : Sp) (gV : List V → List V → List V) (E : XK) (ta : TE) (tk : TA) : TE := fun σ H Q => ta σ H fun x H1 => ∃ a dx fs, x = .ref a ∧ H1 a = some (.ins C dx fs) ∧ fs.lookup m = none ∧
  tk σ H1 fun zs H2 => zs.length = n ∧ sp (gV [x] zs) H2 Q E
section
variable {X : Cx} {CX : CXT} {k : Nat} {C f : Addr} {fd : FuncData} {ps ks : List Str} {sp : Sp} {E : XK} {o : Expr} {m : Str} {apos pos : Pos} {kws : List Keyword} {ta : TE} {tk : TA} {g : List Value → List Value → List Value} {gV : List V → List V → List V} {pl : Sem Bool}
theorem pe_methK0 (he : PE X o ta) (c : Cls X.K C) (hm : Meth X.K C m f) (F : FnOk X.prog X.w X.K X.mg X.base CX k f fd ps sp) (hr : Room k X.A) (hb : KBn X.K fd ps 1 ks g gV) (hx : Passes CX X E) (hkw : PK X kws tk)
    (hall : (backToKw pos (keywordEach kws X.env)).all (·.1.isSome) = true := by rfl) (hks : (backToKw pos (keywordEach kws X.env)).filterMap (·.1) = ks := by rfl)
    (hpl : ((backTo pos (starEach [] X.env)).any (·.1) || (backToKw pos (keywordEach kws X.env)).any (·.1.isNone)) = false := by rfl)
    (ht : eval (.Call (.Attribute o m apos) [] kws pos) X.env = (do
      let ov ← eval o X.env
      standAt apos.atName
      let (f, first) ← holding [ov] (getMethod ov m pl)
      callWith pos f first (backTo pos (starEach [] X.env)) (backToKw pos (keywordEach kws X.env))) := by rfl) :
    PE X (.Call (.Attribute o m apos) [] kws pos) (tMethK C m ks.length sp gV E ta tk) := by
  refine ⟨fun pins s σ H Q I h => ?_⟩
  refine PySem.W.methodCall_KW (pl := pl) (thn (he.run pins s σ H _ I h) fun u s1 ⟨x, H1, I1, rx, a, dx, fs, ex, ea, l, q⟩ => ?_) ht
  subst ex
  obtain rfl : u = Value.ref a := rx
  refine getmeth_ok I1 ea c hm l ?_
  refine PySem.W.callWith_KW0 (first := [.ref a]) (h₀ := X.base) I.ok.mod.kin hm.kp hall ?_ hpl
  refine thn (hkw.run pos pins s1 σ H1 _ I1 q) fun ws s2 ⟨zs, H2, I2, rz, hz, q2⟩ => ⟨I2.kIn, ?_⟩
  rw [hks]
  have r1 : Vals [V.ref a] [Value.ref a] := .cons rfl .nil
  have r2 := hb.rel r1 rz
  refine wpAny_call (codeAny_mono (F.run X.A X.stack s2 H2 ⟨[.ref a], ks.zip ws⟩ (g [.ref a] ws) (gV [.ref a] zs) Q E hr I2.env0 (hb.to s2 [.ref a] ws I2.kIn rfl (rz.length.symm.trans hz)) r2 q2) fun r s' hq => ?_)
  match r, hq with
  | .ok (.ret u), hq => exact I2.after hq
  | .ok .next, hq => exact False.elim hq
  | .ok .brk, hq => exact False.elim hq
  | .ok .cont, hq => exact False.elim hq
  | .error e, hq => exact hx pins σ H2 s2 e s' I2 hq
end

/-! ### tuples that are known to the object: their methods -/
def TupO (H : Hp) (a : Addr) (xs : List V) : Prop := ∃ o : Obj, H a = some (.frz o (.tup xs)) ∧ o.dict = none
theorem TupO.sqt {K : PySem.W.Frag} {H : Hp} {a : Addr} {xs : List V} (h : TupO H a xs) : SqT K H a xs := .inl (.inr ⟨_, h.choose_spec.1⟩)
theorem TupO.same {H H' : Hp} {a : Addr} {xs : List V} (h : TupO H a xs) (s : ∀ b o, H b = some o → H' b = some o) : TupO H' a xs := ⟨_, s _ _ h.choose_spec.1, h.choose_spec.2⟩
/-- tuple(list): a new one; tuple(tuple): itself -/
def rTupF (K : PySem.W.Frag) : List V → Hp → VK → Prop := fun xs H Q => ∃ p ys, xs = [.ref p] ∧ ((SqL K H p ys ∧ ∀ (l : Addr) (o : Obj), H l = none → o.dict = none → Q (.ref l) (upd H l (.frz o (.tup ys)))) ∨ (SqT K H p ys ∧ Q (.ref p) H))
def tTupM (r : V → List V → Hp → VK → Prop) (to : TE) (t : TA) : TE := fun σ H Q => to σ H fun x H1 => (∃ a xs, x = .ref a ∧ TupO H1 a xs) ∧ t σ H1 fun vs H2 => r x vs H2 Q
section
variable {X : Cx} {o e : Expr} {es : List Expr} {to : TE} {t : TA} {name : Str} {apos cpos : Pos} {id : String} {r : V → List V → Hp → VK → Prop}
theorem call_tupF : CallR X (.type "tuple") (rTupF X.K) := by
  intro pins s σ H xs us Q I r h
  obtain ⟨p, ys, rfl, h⟩ := h
  obtain ⟨u, rfl, rx⟩ := vals1 r
  obtain rfl : u = Value.ref p := rx
  rcases h with ⟨hq, q⟩ | ⟨hq, q⟩
  · obtain ⟨its, rv, pl, hz⟩ := I.list hq
    have hl := rv.length
    refine call_tuple_list pl.isList (fun h' kp => ?_) (by simp only [List.size_toArray]; omega)
    have I1 : Inv X pins σ H { s with heap := h' } := I.kept (t' := s.toks) kp
    have at1 := Heap.get?_push_size h' (o := { cls := .type "tuple", data := .seq its.toArray }) rfl
    have I2 : Inv X pins σ (upd H h'.objs.size (.frz { cls := .type "tuple", data := .seq its.toArray } (.tup ys))) { s with heap := h'.push { cls := .type "tuple", data := .seq its.toArray } } :=
      I1.laid (t' := s.toks) (fun b o e => Heap.get?_push_of_some _ e) (Nat.le_refl _) ⟨at1, hz, its, rv, IsTup.new _ _⟩
    exact ⟨.ref h'.objs.size, _, I2, rfl, q _ _ (I1.hok.fresh (Nat.le_refl _)) rfl⟩
  · obtain ⟨its, rv, pl, hz⟩ := I.tuple hq
    exact call_tuple_same pl ⟨.ref p, H, I, rfl, q⟩
theorem pe_tupM (slot : Slot "tuple" name id) (hty : typeOf (.builtin id) = pure (.type "method_descriptor")) (hm : MtR X id r) (ho : PE X o to) (ha : PA X (e :: es) t)
    (hbase : attributeBase o name X.env (eval o X.env) = eval o X.env := by rfl)
    (hfew : ((backTo cpos (starEach (e :: es) X.env)).all (fun x => !x.1) && (backToKw cpos (keywordEach [] X.env)).all (fun x => x.1.isSome)
      && decide ((e :: es).length + ([] : List Keyword).length + (if ([] : List Keyword).isEmpty then 0 else 1) < 30)) = true := by rfl)
    (hline : (apos.endLine == cpos.line) = true := by rfl) (hs : starEach (e :: es) X.env = (false, eval e X.env) :: starEach es X.env := by rfl) (hp : (backTo cpos (starEach es X.env)).any (·.1) = false := by rfl) :
    PE X (.Call (.Attribute o name apos) (e :: es) [] cpos) (tTupM r to t) := by
  refine ⟨fun pins s σ H Q I h => ?_⟩
  refine wpAny_Call_method_late hbase hfew hline rfl (thn (ho.run pins s σ H _ I h) fun v s1 ⟨x, H1, I1, r1, ⟨a, xs, ex, ob, ea, ed⟩, q1⟩ => ?_)
  subst ex
  obtain rfl : v = Value.ref a := r1
  obtain ⟨g1, _, _, _, og, hog, hcg, _⟩ := (show ObjOk X.prog X.w H1 s1.heap a (.frz ob (.tup xs)) from I1.hok a _ ea)
  refine ⟨"tuple", id, PySem.F.plainAttrs_tuple, slot, hty, ⟨og, hog, hcg⟩, fun b hb => ?_, ?_⟩
  · cases hb
    exact ⟨ob, g1, ed⟩
  · have hA := ha.run cpos pins s1 σ H1 _ I1 q1
    rw [hs] at hA ⊢
    refine Calls.callWith_builtin (show (false || (backTo cpos (starEach es X.env)).any (·.1)) = false from by rw [hp]; rfl) (Calls.evalArgs_plain ?_)
    exact thn hA fun us s2 ⟨vs, H2, I2, r2, q2⟩ => hm pins s2 σ H2 (.ref a) vs (.ref a) us Q I2 rfl r2 q2
end

/-! ### the end of a law whose def is promised while no repr is under way -/
theorem law_callg {P : Program} {w : World} {K : PySem.W.Frag} {mg mb : Str → Option Value} {k : Nat} {fa a : Addr} {sp : Sp} {st : Shared} {us : List Value} {ns : List Int}
    (KX : K.In st.heap) (hn : st.heap.Ns mainGlobals mg) (hb : st.heap.Ns builtinsNs mb) (hbb : ∀ x : Str, x ≠ "__name__" → mb x = bootBuiltins x) (nl : st.heap.NoLimit) (hgens : st.gens = #[])
    (ha : st.heap.get? a = some { cls := .type "list", data := .seq us.toArray }) (hi : IntsAre us ns) (hz : ns.length ≤ sizeLine) (hr : Room k callerA)
    (F : ∀ base : Heap, K.In base → base.Ns mainGlobals mg → FnG P w K mg base k fa sp)
    (hsp : ∀ H : Hp, SqL K H a (ns.map V.int) → sp [.ref a] H (fun v _ => v = .bl true) E0) :
    codeAny (model P w) callerA (.call (.ref fa) ⟨[.ref a], []⟩) (fun r s' => r = .ok (.ret (.bool true)) ∧ OldK st.heap s'.heap ∧ s'.os = st.os ∧ AllBare s'.gens) st := by
  have rv := vals_ints hi
  have hlen := hi.length
  have key : ∀ H : Hp, Only H → SqL K H a (ns.map V.int) → HOk P w H st.heap → (∀ b, H b ≠ none → b = a) → (H a ≠ none → K.lookup a = none) →
      codeAny (model P w) callerA (.call (.ref fa) ⟨[.ref a], []⟩) (fun r s' => r = .ok (.ret (.bool true)) ∧ OldK st.heap s'.heap ∧ s'.os = st.os ∧ AllBare s'.gens) st := by
    intro H hO hS hok hA hK
    have offD : ∀ {b : Addr} {o : Obj} {es : Array DictEntry} {ep : Nat}, st.heap.get? b = some o → o.data = .dict es ep → H b = none := by
      intro b o es ep e d
      cases q : H b with
      | none => rfl
      | some v =>
        obtain rfl : b = a := hA b (by rw [q]; simp)
        rw [ha] at e
        cases e
        exact nomatch d
    have offK : ∀ {b : Addr} {o : Obj}, K.lookup b = some o → H b = none := by
      intro b o e
      cases q : H b with
      | none => rfl
      | some v =>
        obtain rfl : b = a := hA b (by rw [q]; simp)
        rw [hK (by rw [q]; simp)] at e
        cases e
    have toNs : ∀ {b : Addr} {m : Str → Option Value}, st.heap.Ns b m → (hidT st.heap H).Ns b m := fun ⟨o, es, ep, e, d, r⟩ => ⟨o, es, ep, hidT_get e (offD e d), d, r⟩
    have kb : K.In (hidT st.heap H) := fun b o e => hidT_get (KX b o e) (offK e)
    obtain ⟨mc, l1, l2⟩ := nl
    have M : Mod K mg (hidT st.heap H) := ⟨kb, toNs hn, ⟨mb, toNs hb, hbb⟩, ⟨mc, toNs l1, l2⟩⟩
    have e0 : Env0 P w K mg (hidT st.heap H) callerA [] st H :=
      ⟨rfl, M, fun b o e => of_hidT e, Nat.le_of_eq (hidT_size _ _), trivial, fun b hb => absurd (show b ∈ ([] : List Addr) from hb) (by simp), hok, .of_eq hgens⟩
    refine codeAny_mono (F _ kb (toNs hn) callerA [] st H [.ref a] [.ref a] _ rfl hr e0 (.cons rfl .nil) (hsp H hS)) fun r s' h => ?_
    match r, h with
    | .error e, h => exact h.elim
    | .ok .next, h => exact h.elim
    | .ok .brk, h => exact h.elim
    | .ok .cont, h => exact h.elim
    | .ok (.ret u), h =>
      obtain ⟨v, H', os, bare, un, hok', rr, q⟩ := h
      obtain rfl : v = .bl true := q
      obtain rfl : u = Value.bool true := rr
      refine ⟨rfl, OldK.of_keep fun b o e => ?_, os, bare⟩
      cases q : H b with
      | none => exact un.keep b o e q (fun z => absurd (show b ∈ ([] : List Addr) from z) (by simp)) (by simp)
      | some v =>
        rcases hO b with z | ⟨ob, xs, z⟩
        · rw [q] at z
          cases z
        · obtain ⟨g1, _⟩ := hok b _ z
          obtain ⟨g2, _⟩ := hok' b _ (un.frzs b ob _ z)
          rw [e] at g1
          cases g1
          exact g2
  cases hk : K.lookup a with
  | some o =>
    have e := KX a o hk
    rw [ha] at e
    cases e
    refine key (fun _ => none) (fun _ => .inl rfl) (.inr ⟨_, us.toArray, _, hk, rfl, rfl, rfl, ?_, by simpa using rv⟩) (fun b u z => nomatch z) (fun b z => absurd rfl z) fun z => absurd rfl z
    rw [List.size_toArray, hlen]
    exact hz
  | none =>
    let T : HO := .frz { cls := .type "list", data := .seq us.toArray } (.lst (ns.map V.int))
    refine key (fun b => if b = a then some T else none) (fun b => ?_) (.inl (.inr ⟨_, if_pos rfl⟩)) (fun b u z => ?_) (fun b z => ?_) fun _ => hk
    · by_cases hb : b = a
      · exact .inr ⟨_, _, if_pos hb⟩
      · exact .inl (if_neg hb)
    · by_cases hb : b = a
      · subst hb
        have z' := (if_pos rfl).symm.trans z
        cases z'
        exact ⟨ha, by rw [List.length_map]; exact hz, us, _, rv, ha⟩
      · have z' := (if_neg hb).symm.trans z
        cases z'
    · by_cases hb : b = a
      · exact hb
      · exact absurd (if_neg hb) z

theorem walk_g {l : PySem.W.OpenLaw} {n k : Nat} {q : Program} {loose : List Str} {XP : (Str → Option Value) → Heap → Prop} {YP : World → Heap → Prop} {d : DefRec} {K : Params → PySem.W.Frag} {sp : PySem.W.Frag → Sp}
    (hn : l.most = some n) (hn2 : n ≤ sizeLine) (hdf : d.params.defaults = []) (hr : Room k callerA) (hY : ∀ (w : World) (h : Heap), YP w h → (K w.params).In h)
    (F : ∀ (w : World) (mg : Str → Option Value) (fa : Addr) (h : Heap), (K w.params).In h → h.Ns mainGlobals mg → mg d.name = some (.ref fa) →
      ∀ base : Heap, (K w.params).In base → base.Ns mainGlobals mg → FnG l.prog w (K w.params) mg base k fa (sp (K w.params)))
    (hsp : ∀ (K : PySem.W.Frag) (H : Hp) (a : Addr) (ns : List Int), ns.length ≤ n → SqL K H a (ns.map V.int) → sp K [.ref a] H (fun v _ => v = .bl true) E0) :
    PySem.W.WalkO q loose XP YP l.row.toRowW d [] (fun f vs => PySem.call f vs) := by
  refine Att.attach_call hn hdf fun w s₀ s₁ mg mb fa o pm cd doc a vs ns G Y ho hd hcd hmg hobj hints hlen hg => ?_
  have KX := hY w _ Y
  exact law_callg KX G.T.g G.T.b G.T.builtins G.T.nolimit hg hobj hints (Nat.le_trans hlen hn2) hr (F w mg fa _ KX G.T.g hmg) fun H hS => hsp _ H a ns hlen hS
end MH
/-! The mathematics: texts in order, names, menus. -/
namespace MH
open PySem PySem.Spec PyProof.Rows L2

/-! ### the order of texts -/
def ltS (x y : Str) : Prop := x.cps.toList < y.cps.toList
instance (x y : Str) : Decidable (ltS x y) := inferInstanceAs (Decidable (x.cps.toList < y.cps.toList))
theorem lst_lt_irrefl : ∀ a : List Nat, ¬ a < a := fun a h => List.lt_irrefl a h
theorem ltS_irrefl (x : Str) : ¬ ltS x x := lst_lt_irrefl _
theorem ltS_trans {x y z : Str} (a : ltS x y) (b : ltS y z) : ltS x z := List.lt_trans a b
theorem ltS_tri (x y : Str) : ltS x y ∨ x = y ∨ ltS y x := by
  by_cases h : ltS x y
  · exact .inl h
  · by_cases h2 : ltS y x
    · exact .inr (.inr h2)
    · refine .inr (.inl ?_)
      have e : x.cps.toList = y.cps.toList := List.le_antisymm (List.not_lt.mp h2) (List.not_lt.mp h)
      exact Str.ext' (Array.toList_inj.mp e)
theorem risingS_pw : ∀ (p : Str) (l : List Str), risingS p l = true → l.Pairwise (fun a b => ¬ ltS b a) ∧ ∀ x ∈ l, ¬ ltS x p
  | p, [], _ => ⟨List.Pairwise.nil, fun _ h => nomatch h⟩
  | p, x :: r, h => by
    have h' : (!ltCps x.cps.toList p.cps.toList && risingS x r) = true := h
    rw [Bool.and_eq_true, ltCps_eq] at h'
    obtain ⟨h1, h2⟩ := h'
    obtain ⟨q1, q2⟩ := risingS_pw x r h2
    have n1 : ¬ ltS x p := by
      intro z
      rw [decide_eq_true (show x.cps.toList < p.cps.toList from z)] at h1
      cases h1
    refine ⟨List.Pairwise.cons (fun y hy => q2 y hy) q1, fun y hy => ?_⟩
    rcases List.mem_cons.mp hy with rfl | hy
    · exact n1
    · intro z
      rcases ltS_tri x p with a | a | a
      · exact n1 a
      · subst a
        exact q2 y hy z
      · exact q2 y hy (ltS_trans z a)
theorem sortedS_pw : ∀ {l : List Str}, sortedS l = true → l.Pairwise (fun a b => ¬ ltS b a)
  | [], _ => List.Pairwise.nil
  | x :: r, h => List.Pairwise.cons (risingS_pw x r h).2 (risingS_pw x r h).1
/-- two arrangements in order of the same texts are one -/
theorem sorted_one {l m : List Str} (p : l.Perm m) (hl : sortedS l = true) (hm : sortedS m = true) : l = m :=
  p.eq_of_pairwise (fun a b _ _ h1 h2 => by
    rcases ltS_tri a b with z | z | z
    · exact absurd z h2
    · exact z
    · exact absurd z h1) (sortedS_pw hl) (sortedS_pw hm)
/-- in order and none twice: each before the next -/
theorem sorted_lt {l : List Str} (hn : l.Nodup) (h : sortedS l = true) : l.Pairwise ltS := by
  have a := sortedS_pw h
  have b : l.Pairwise (fun x y => x ≠ y) := hn
  refine (List.pairwise_and_iff.mpr ⟨a, b⟩).imp fun {x y} z => ?_
  rcases ltS_tri x y with q | q | q
  · exact q
  · exact absurd q z.2
  · exact absurd q z.1

/-! ### names -/
def letters : Str := "abcdefghijklmnopqrstuvwxyz"
def digits : Str := "0123456789"
def isL (c : Nat) : Bool := decide (c ∈ letters.cps.toList)
def isD (c : Nat) : Bool := decide (c ∈ digits.cps.toList)
def nameOk (z : Str) : Bool := decide (1 ≤ z.length) && (decide (z.length ≤ 8) && (isL (z.cps.toList.getD 0 0) && z.cps.toList.all fun c => isL c || isD c))
def pool : List Str := ["a", "a0", "aa", "ab", "b", "b9", "ba", "c", "d", "k1", "q", "zz", "zzzzzzzz"]
theorem pool_ok : ∀ z ∈ pool, nameOk z = true := by decide +kernel
theorem pool_nd : pool.Nodup := by decide +kernel

/-! ### menus -/
def menusUp (l : List Str) : List (List Str) := l.foldl (fun acc x => acc ++ acc.map (· ++ [x])) [[]]
theorem menusUp_snoc (l : List Str) (x : Str) : menusUp (l ++ [x]) = menusUp l ++ (menusUp l).map (· ++ [x]) := by
  unfold menusUp
  rw [List.foldl_append]
  rfl
theorem foldl_head (f : List (List Str) → Str → List (List Str)) (hf : ∀ a r x, ∃ r', f (a :: r) x = a :: r') : ∀ (l : List Str) (a : List Str) (r : List (List Str)), ∃ r', l.foldl f (a :: r) = a :: r'
  | [], a, r => ⟨r, rfl⟩
  | x :: l, a, r => by
    obtain ⟨r', e⟩ := hf a r x
    rw [List.foldl_cons, e]
    exact foldl_head f hf l a r'
theorem menusUp_sub : ∀ (n : Nat) (l : List Str), l.length = n → ∀ c ∈ menusUp l, c.Sublist l
  | 0, l, h, c, hc => by
    obtain rfl : l = [] := List.length_eq_zero_iff.mp h
    obtain rfl : c = [] := by simpa [menusUp] using hc
    exact List.Sublist.refl _
  | n + 1, l, h, c, hc => by
    obtain ⟨m, x, rfl⟩ : ∃ m x, l = m ++ [x] := ⟨l.dropLast, l.getLast (by intro e; rw [e] at h; cases h), (List.dropLast_concat_getLast _).symm⟩
    rw [menusUp_snoc, List.mem_append, List.mem_map] at hc
    have hm : m.length = n := by
      rw [List.length_append] at h
      exact Nat.succ.inj h
    rcases hc with hc | ⟨d, hd, rfl⟩
    · exact (menusUp_sub n m hm c hc).trans (List.sublist_append_left _ _)
    · exact (menusUp_sub n m hm d hd).append (List.Sublist.refl _)
/-- all menus but the empty one -/
def menusOf (l : List Str) : List (List Str) := (menusUp l).tail
theorem menusUp_len : ∀ (n : Nat) (l : List Str), l.length = n → (menusUp l).length = 2 ^ n
  | 0, l, h => by
    obtain rfl : l = [] := List.length_eq_zero_iff.mp h
    rfl
  | n + 1, l, h => by
    obtain ⟨m, x, rfl⟩ : ∃ m x, l = m ++ [x] := ⟨l.dropLast, l.getLast (by intro e; rw [e] at h; cases h), (List.dropLast_concat_getLast _).symm⟩
    have hm : m.length = n := by
      rw [List.length_append] at h
      exact Nat.succ.inj h
    rw [menusUp_snoc, List.length_append, List.length_map, menusUp_len n m hm, Nat.pow_succ]
    omega
theorem menusUp_ne : ∀ (n : Nat) (l : List Str), l.length = n → ∃ r, menusUp l = [] :: r ∧ ∀ c ∈ r, c ≠ []
  | 0, l, h => by
    obtain rfl : l = [] := List.length_eq_zero_iff.mp h
    exact ⟨[], rfl, fun _ h => nomatch h⟩
  | n + 1, l, h => by
    obtain ⟨m, x, rfl⟩ : ∃ m x, l = m ++ [x] := ⟨l.dropLast, l.getLast (by intro e; rw [e] at h; cases h), (List.dropLast_concat_getLast _).symm⟩
    have hm : m.length = n := by
      rw [List.length_append] at h
      exact Nat.succ.inj h
    obtain ⟨r, e, hr⟩ := menusUp_ne n m hm
    refine ⟨r ++ (menusUp m).map (· ++ [x]), by rw [menusUp_snoc, e]; rfl, fun c hc => ?_⟩
    rcases List.mem_append.mp hc with hc | hc
    · exact hr c hc
    · obtain ⟨d, _, rfl⟩ := List.mem_map.mp hc
      simp
theorem menusOf_ok {l c : List Str} (h : c ∈ menusOf l) : c ≠ [] ∧ c.Sublist l := by
  obtain ⟨r, e, hr⟩ := menusUp_ne l.length l rfl
  have h' : c ∈ (menusUp l).tail := h
  refine ⟨?_, menusUp_sub l.length l rfl c (List.mem_of_mem_tail h')⟩
  rw [e] at h'
  exact hr c h'
end MH
/-! Data as repr shows it: its length, and what == and repr ask. -/
namespace MH
open PySem PySem.Spec PyProof.Rows L2
mutual
def cost : PyData → Nat
  | .none => 4
  | .bool _ => 5
  | .int _ => 101
  | .str x => 10 * x.length + 2
  | .list xs => costAll xs + 3
  | .tuple xs => costAll xs + 3
  | .dict _ => 0
def costAll : List PyData → Nat
  | [] => 0
  | x :: xs => cost x + 2 + costAll xs
end
mutual
def okD : PyData → Bool
  | .none => true
  | .bool _ => true
  | .int i => decide (i.natAbs < 10 ^ 100)
  | .str x => PyData.strOk x
  | .list xs => okDs xs
  | .tuple xs => okDs xs
  | .dict _ => false
def okDs : List PyData → Bool
  | [] => true
  | x :: xs => okD x && okDs xs
end
theorem strOk_lt {x : Str} (h : PyData.strOk x = true) : ∀ c ∈ x.cps.toList, c < 16 ^ 8 := by
  intro c hc
  unfold PyData.strOk at h
  rw [← Array.all_toList, List.all_eq_true] at h
  have := of_decide_eq_true (h c hc)
  omega
theorem okDs_len (xs : List PyData) : xs.length * 2 ≤ costAll xs := by
  induction xs with
  | nil => exact Nat.le_refl _
  | cons x xs ih =>
    show (xs.length + 1) * 2 ≤ cost x + 2 + costAll xs
    omega
mutual
theorem shown_le : ∀ d : PyData, okD d = true → d.shown.length ≤ cost d
  | .none, _ => by decide +kernel
  | .bool true, _ => by decide +kernel
  | .bool false, _ => by decide +kernel
  | .int i, h => by
    have q := int_text_length_le10 (k := 100) (by decide) (of_decide_eq_true (show decide (i.natAbs < 10 ^ 100) = true from h))
    show (Str.ofString (toString i)).length ≤ 101
    rw [PySem.ofString_length]
    exact q
  | .str x, h => by
    rw [PyData.shown]
    exact StrLaws.reprText_len x (strOk_lt h)
  | .list xs, h => by
    have q := shownAll_le xs h
    have q2 := listText_len_le (PyData.shownAll xs)
    rw [PyData.shown]
    show _ ≤ costAll xs + 3
    omega
  | .tuple xs, h => by
    have q := shownAll_le xs h
    have q2 := tupleText_len_le (PyData.shownAll xs)
    rw [PyData.shown]
    show _ ≤ costAll xs + 3
    omega
  | .dict _, h => nomatch h
theorem shownAll_le : ∀ xs : List PyData, okDs xs = true → ((PyData.shownAll xs).map (·.length)).sum + 2 * (PyData.shownAll xs).length ≤ costAll xs
  | [], _ => by simp [PyData.shownAll]
  | x :: xs, h => by
    have h' : (okD x && okDs xs) = true := h
    rw [Bool.and_eq_true] at h'
    have a := shown_le x h'.1
    have b := shownAll_le xs h'.2
    rw [PyData.shownAll, List.map_cons, List.sum_cons, List.length_cons]
    show _ ≤ cost x + 2 + costAll xs
    omega
end
mutual
theorem ok_show : ∀ d : PyData, okD d = true → d.showable = true
  | .none, _ => by simp only [PyData.showable]
  | .bool _, _ => by simp only [PyData.showable]
  | .int i, h => by
    have q := of_decide_eq_true (show decide (i.natAbs < 10 ^ 100) = true from h)
    rw [PyData.showable]
    refine decide_eq_true ?_
    by_cases z : i.natAbs = 0
    · rw [z]
      decide
    · rw [Nat.log2_lt z]
      exact Nat.lt_of_lt_of_le q (by decide +kernel)
  | .str _, _ => by simp only [PyData.showable]
  | .list xs, h => by
    rw [PyData.showable]
    exact ok_showAll xs h
  | .tuple xs, h => by
    rw [PyData.showable]
    exact ok_showAll xs h
  | .dict _, h => nomatch h
theorem ok_showAll : ∀ xs : List PyData, okDs xs = true → PyData.showableAll xs = true
  | [], _ => by simp only [PyData.showableAll]
  | x :: xs, h => by
    have h' : (okD x && okDs xs) = true := h
    rw [Bool.and_eq_true] at h'
    rw [PyData.showableAll, ok_show x h'.1, ok_showAll xs h'.2]
    rfl
end
mutual
theorem ok_lay : ∀ d : PyData, okD d = true → d.canLay0 = true
  | .none, _ => by simp only [PyData.canLay0]
  | .bool _, _ => by simp only [PyData.canLay0]
  | .int _, _ => by simp only [PyData.canLay0]
  | .str x, h => by
    rw [PyData.canLay0]
    exact h
  | .list xs, h => by
    rw [PyData.canLay0]
    exact ok_layAll xs h
  | .tuple xs, h => by
    rw [PyData.canLay0]
    exact ok_layAll xs h
  | .dict _, h => nomatch h
theorem ok_layAll : ∀ xs : List PyData, okDs xs = true → PyData.canLayAll0 xs = true
  | [], _ => by simp only [PyData.canLayAll0]
  | x :: xs, h => by
    have h' : (okD x && okDs xs) = true := h
    rw [Bool.and_eq_true] at h'
    rw [PyData.canLayAll0, ok_lay x h'.1, ok_layAll xs h'.2]
    rfl
end
/-- what repr of data asks -/
structure ShowOk (K : PySem.W.Frag) (H : Hp) (a : Addr) (d : PyData) : Prop where
  dp : Dp K H (.ref a) d
  sh : d.showable = true
  nd : d.hasDict = false
  dep : d.depth ≤ 60
  len : d.shown.length ≤ sizeLine
theorem show_of {K : PySem.W.Frag} {H : Hp} {a : Addr} {d : PyData} (h : Dp K H (.ref a) d) (ok : okD d = true) (h1 : d.depth ≤ 60) (h2 : cost d ≤ 100000) : ShowOk K H a d :=
  ⟨h, ok_show d ok, PyData.hasDict_of_canLay d (ok_lay d ok), h1, Nat.le_trans (shown_le d ok) (Nat.le_trans h2 (by decide))⟩
theorem shaped_of {d : PyData} (ok : okD d = true) (h : d.depth ≤ 64) : SeqAt.shaped d = true := by
  unfold SeqAt.shaped
  rw [ok_lay d ok, decide_eq_true h]
  rfl
/-! texts in a row -/
theorem okDs_strs {ss : List Str} (h : ∀ z ∈ ss, PyData.strOk z = true) : okDs (ss.map PyData.str) = true := by
  induction ss with
  | nil => rfl
  | cons z r ih =>
    show (PyData.strOk z && okDs (r.map PyData.str)) = true
    rw [h z List.mem_cons_self, ih fun y hy => h y (List.mem_cons_of_mem _ hy)]
    rfl
theorem costAll_strs {ss : List Str} {n : Nat} (h : ∀ z ∈ ss, z.length ≤ n) : costAll (ss.map PyData.str) ≤ ss.length * (10 * n + 4) := by
  induction ss with
  | nil => exact Nat.zero_le _
  | cons z r ih =>
    show 10 * z.length + 2 + 2 + costAll (r.map PyData.str) ≤ (r.length + 1) * (10 * n + 4)
    have a := h z List.mem_cons_self
    have b := ih fun y hy => h y (List.mem_cons_of_mem _ hy)
    rw [Nat.add_mul]
    omega
theorem depth_strs : ∀ ss : List Str, PyData.depthAll (ss.map PyData.str) = 0
  | [] => by rw [List.map_nil, PyData.depthAll]
  | z :: r => by rw [List.map_cons, PyData.depthAll, depth_strs r, PyData.depth]; rfl
theorem dp_strs {K : PySem.W.Frag} {H : Hp} : ∀ ss : List Str, DpAll K H (ss.map V.str) (ss.map PyData.str)
  | [] => .nil
  | z :: r => .cons (.str z) (dp_strs r)
theorem isL_le {c : Nat} (h : isL c = true) : c < 128 := by
  have q : ∀ c ∈ letters.cps.toList, c < 128 := by decide +kernel
  exact q c (of_decide_eq_true h)
theorem isD_le {c : Nat} (h : isD c = true) : c < 128 := by
  have q : ∀ c ∈ digits.cps.toList, c < 128 := by decide +kernel
  exact q c (of_decide_eq_true h)
theorem nameOk_len {z : Str} (h : nameOk z = true) : z.length ≤ 8 := by
  unfold nameOk at h
  simp only [Bool.and_eq_true, decide_eq_true_eq] at h
  exact h.2.1
theorem nameOk_str {z : Str} (h : nameOk z = true) : PyData.strOk z = true := by
  unfold nameOk at h
  simp only [Bool.and_eq_true, decide_eq_true_eq] at h
  have q := h.2.2.2
  rw [List.all_eq_true] at q
  unfold PyData.strOk
  rw [← Array.all_toList, List.all_eq_true]
  intro c hc
  refine decide_eq_true ?_
  have w := q c hc
  rw [Bool.or_eq_true] at w
  rcases w with w | w
  · have := isL_le w
    omega
  · have := isD_le w
    omega
end MH
namespace MH
open PySem PySem.Spec PyProof.Rows L2
def topS (i : Nat) : Stmt := PySem.Challenge.pw_menuhouses_k05_best_and_below.main.body.getD i (.Pass ⟨0, 0, 0, 0⟩)
abbrev st_is_index : Stmt := topS 14
abbrev names_is_index : List Str := ["value", "many"]
theorem sc_is_index : FnScope names_is_index ["value", "many"] (defScope st_is_index) := ⟨rfl, rfl, rfl, by decide +kernel, rfl, by decide +kernel, by decide +kernel⟩
abbrev st_is_name : Stmt := topS 15
abbrev names_is_name : List Str := ["value", "sign"]
theorem sc_is_name : FnScope names_is_name ["value"] (defScope st_is_name) := ⟨rfl, rfl, rfl, by decide +kernel, rfl, by decide +kernel, by decide +kernel⟩
abbrev st_is_filled_tuple : Stmt := topS 16
abbrev names_is_filled_tuple : List Str := ["value"]
theorem sc_is_filled_tuple : FnScope names_is_filled_tuple ["value"] (defScope st_is_filled_tuple) := ⟨rfl, rfl, rfl, by decide +kernel, rfl, by decide +kernel, by decide +kernel⟩
abbrev st_is_one_of : Stmt := topS 17
abbrev names_is_one_of : List Str := ["value", "things"]
theorem sc_is_one_of : FnScope names_is_one_of ["value", "things"] (defScope st_is_one_of) := ⟨rfl, rfl, rfl, by decide +kernel, rfl, by decide +kernel, by decide +kernel⟩
abbrev st_first_wrong_in_row : Stmt := topS 18
abbrev names_first_wrong_in_row : List Str := ["row", "at", "name"]
theorem sc_first_wrong_in_row : FnScope names_first_wrong_in_row ["row"] (defScope st_first_wrong_in_row) := ⟨rfl, rfl, rfl, by decide +kernel, rfl, by decide +kernel, by decide +kernel⟩
abbrev st_first_wrong_on_menu : Stmt := topS 19
abbrev names_first_wrong_on_menu : List Str := ["menu", "things", "at", "thing"]
theorem sc_first_wrong_on_menu : FnScope names_first_wrong_on_menu ["menu", "things"] (defScope st_first_wrong_on_menu) := ⟨rfl, rfl, rfl, by decide +kernel, rfl, by decide +kernel, by decide +kernel⟩
abbrev st_index_of : Stmt := topS 24
abbrev names_index_of : List Str := ["name", "names", "at", "other"]
theorem sc_index_of : FnScope names_index_of ["name", "names"] (defScope st_index_of) := ⟨rfl, rfl, rfl, by decide +kernel, rfl, by decide +kernel, by decide +kernel⟩
abbrev st_check_row : Stmt := topS 20
abbrev names_check_row : List Str := ["row", "wrong"]
theorem sc_check_row : FnScope names_check_row ["row"] (defScope st_check_row) := ⟨rfl, rfl, rfl, by decide +kernel, rfl, by decide +kernel, by decide +kernel⟩
abbrev st_check_menu : Stmt := topS 21
abbrev names_check_menu : List Str := ["menu", "things", "wrong"]
theorem sc_check_menu : FnScope names_check_menu ["menu", "things"] (defScope st_check_menu) := ⟨rfl, rfl, rfl, by decide +kernel, rfl, by decide +kernel, by decide +kernel⟩
abbrev st_check_thing : Stmt := topS 22
abbrev names_check_thing : List Str := ["thing", "things"]
theorem sc_check_thing : FnScope names_check_thing ["thing", "things"] (defScope st_check_thing) := ⟨rfl, rfl, rfl, by decide +kernel, rfl, by decide +kernel, by decide +kernel⟩
abbrev st_RankingD_initD : Stmt := inClass (topS 26) 0
abbrev names_RankingD_initD : List Str := ["self", "row"]
theorem sc_RankingD_initD : FnScope names_RankingD_initD ["self", "row"] (defScope st_RankingD_initD) := ⟨rfl, rfl, rfl, by decide +kernel, rfl, by decide +kernel, by decide +kernel⟩
abbrev st_Ranking_row : Stmt := inClass (topS 26) 3
abbrev names_Ranking_row : List Str := ["self"]
theorem sc_Ranking_row : FnScope names_Ranking_row ["self"] (defScope st_Ranking_row) := ⟨rfl, rfl, rfl, by decide +kernel, rfl, by decide +kernel, by decide +kernel⟩
abbrev st_Ranking_best : Stmt := inClass (topS 26) 5
abbrev names_Ranking_best : List Str := ["self", "menu", "thing"]
theorem sc_Ranking_best : FnScope names_Ranking_best ["self", "menu"] (defScope st_Ranking_best) := ⟨rfl, rfl, rfl, by decide +kernel, rfl, by decide +kernel, by decide +kernel⟩
abbrev st_Ranking_below : Stmt := inClass (topS 26) 6
abbrev names_Ranking_below : List Str := ["self", "thing"]
theorem sc_Ranking_below : FnScope names_Ranking_below ["self", "thing"] (defScope st_Ranking_below) := ⟨rfl, rfl, rfl, by decide +kernel, rfl, by decide +kernel, by decide +kernel⟩
abbrev st_Ranking_place : Stmt := inClass (topS 26) 7
abbrev names_Ranking_place : List Str := ["self", "thing"]
theorem sc_Ranking_place : FnScope names_Ranking_place ["self", "thing"] (defScope st_Ranking_place) := ⟨rfl, rfl, rfl, by decide +kernel, rfl, by decide +kernel, by decide +kernel⟩
abbrev st_l_purse : Stmt := topS 28
abbrev names_l_purse : List Str := ["_law_script", "_law_spot", "_law_cell", "_law_seed", "_law_one"]
theorem sc_l_purse : FnScope names_l_purse ["_law_script", "_law_spot"] (defScope st_l_purse) := ⟨rfl, rfl, rfl, by decide +kernel, rfl, by decide +kernel, by decide +kernel⟩
abbrev st_l_draw : Stmt := topS 29
abbrev names_l_draw : List Str := ["_law_purse_here", "_law_many", "_law_digit"]
theorem sc_l_draw : FnScope names_l_draw ["_law_purse_here", "_law_many"] (defScope st_l_draw) := ⟨rfl, rfl, rfl, by decide +kernel, rfl, by decide +kernel, by decide +kernel⟩
abbrev st_l_things : Stmt := topS 30
abbrev names_l_things : List Str := ["_law_purse_here", "_law_many", "_law_pool", "_law_found", "_law_turn"]
theorem sc_l_things : FnScope names_l_things ["_law_purse_here", "_law_many"] (defScope st_l_things) := ⟨rfl, rfl, rfl, by decide +kernel, rfl, by decide +kernel, by decide +kernel⟩
abbrev st_l_order : Stmt := topS 31
abbrev names_l_order : List Str := ["_law_purse_here", "_law_things_here", "_law_left", "_law_found", "_law_turn"]
theorem sc_l_order : FnScope names_l_order ["_law_purse_here", "_law_things_here"] (defScope st_l_order) := ⟨rfl, rfl, rfl, by decide +kernel, rfl, by decide +kernel, by decide +kernel⟩
abbrev st_l_best : Stmt := topS 32
abbrev names_l_best : List Str := ["_law_row", "_law_card", "_law_item"]
theorem sc_l_best : FnScope names_l_best ["_law_row", "_law_card"] (defScope st_l_best) := ⟨rfl, rfl, rfl, by decide +kernel, rfl, by decide +kernel, by decide +kernel⟩
abbrev st_l_menus : Stmt := topS 33
abbrev names_l_menus : List Str := ["_law_things_here", "_law_found", "_law_item", "_law_card"]
theorem sc_l_menus : FnScope names_l_menus ["_law_things_here"] (defScope st_l_menus) := ⟨rfl, rfl, rfl, by decide +kernel, rfl, by decide +kernel, by decide +kernel⟩
abbrev st_l_right : Stmt := topS 34
abbrev names_l_right : List Str := ["_law_purse_here", "_law_row", "_law_ranking", "_law_card", "_law_due", "_law_k"]
theorem sc_l_right : FnScope names_l_right ["_law_purse_here"] (defScope st_l_right) := ⟨rfl, rfl, rfl, by decide +kernel, rfl, by decide +kernel, by decide +kernel⟩
abbrev st_law : Stmt := topS 35
abbrev names_law : List Str := ["_law_script", "_law_spot"]
theorem sc_law : FnScope names_law ["_law_script"] (defScope st_law) := ⟨rfl, rfl, rfl, by decide +kernel, rfl, by decide +kernel, by decide +kernel⟩
structure Tx (K : PySem.W.Frag) (mg : Str → Option Value) where
  C : Addr
  cl : Cls K C
  g_Ranking : mg "Ranking" = some (.ref C)
  no__row : NoAttr K C "_row"
  no__things : NoAttr K C "_things"
  a_is_index : Addr
  fd_is_index : FuncData
  F_is_index : Fun K "is_index" "is_index" st_is_index a_is_index fd_is_index
  b_is_index : Binds K fd_is_index ["value", "many"] []
  g_is_index : mg "is_index" = some (.ref a_is_index)
  a_is_name : Addr
  fd_is_name : FuncData
  F_is_name : Fun K "is_name" "is_name" st_is_name a_is_name fd_is_name
  b_is_name : Binds K fd_is_name ["value"] []
  g_is_name : mg "is_name" = some (.ref a_is_name)
  a_is_filled_tuple : Addr
  fd_is_filled_tuple : FuncData
  F_is_filled_tuple : Fun K "is_filled_tuple" "is_filled_tuple" st_is_filled_tuple a_is_filled_tuple fd_is_filled_tuple
  b_is_filled_tuple : Binds K fd_is_filled_tuple ["value"] []
  g_is_filled_tuple : mg "is_filled_tuple" = some (.ref a_is_filled_tuple)
  a_is_one_of : Addr
  fd_is_one_of : FuncData
  F_is_one_of : Fun K "is_one_of" "is_one_of" st_is_one_of a_is_one_of fd_is_one_of
  b_is_one_of : Binds K fd_is_one_of ["value", "things"] []
  g_is_one_of : mg "is_one_of" = some (.ref a_is_one_of)
  a_first_wrong_in_row : Addr
  fd_first_wrong_in_row : FuncData
  F_first_wrong_in_row : Fun K "first_wrong_in_row" "first_wrong_in_row" st_first_wrong_in_row a_first_wrong_in_row fd_first_wrong_in_row
  b_first_wrong_in_row : Binds K fd_first_wrong_in_row ["row"] []
  g_first_wrong_in_row : mg "first_wrong_in_row" = some (.ref a_first_wrong_in_row)
  a_first_wrong_on_menu : Addr
  fd_first_wrong_on_menu : FuncData
  F_first_wrong_on_menu : Fun K "first_wrong_on_menu" "first_wrong_on_menu" st_first_wrong_on_menu a_first_wrong_on_menu fd_first_wrong_on_menu
  b_first_wrong_on_menu : Binds K fd_first_wrong_on_menu ["menu", "things"] []
  g_first_wrong_on_menu : mg "first_wrong_on_menu" = some (.ref a_first_wrong_on_menu)
  a_index_of : Addr
  fd_index_of : FuncData
  F_index_of : Fun K "index_of" "index_of" st_index_of a_index_of fd_index_of
  b_index_of : Binds K fd_index_of ["name", "names"] []
  g_index_of : mg "index_of" = some (.ref a_index_of)
  a_check_row : Addr
  fd_check_row : FuncData
  F_check_row : Fun K "check_row" "check_row" st_check_row a_check_row fd_check_row
  b_check_row : Binds K fd_check_row ["row"] []
  g_check_row : mg "check_row" = some (.ref a_check_row)
  a_check_menu : Addr
  fd_check_menu : FuncData
  F_check_menu : Fun K "check_menu" "check_menu" st_check_menu a_check_menu fd_check_menu
  b_check_menu : Binds K fd_check_menu ["menu", "things"] []
  g_check_menu : mg "check_menu" = some (.ref a_check_menu)
  a_check_thing : Addr
  fd_check_thing : FuncData
  F_check_thing : Fun K "check_thing" "check_thing" st_check_thing a_check_thing fd_check_thing
  b_check_thing : Binds K fd_check_thing ["thing", "things"] []
  g_check_thing : mg "check_thing" = some (.ref a_check_thing)
  a_RankingD_initD : Addr
  fd_RankingD_initD : FuncData
  F_RankingD_initD : Fun K "__init__" "Ranking.__init__" st_RankingD_initD a_RankingD_initD fd_RankingD_initD
  b_RankingD_initD : Binds K fd_RankingD_initD ["self", "row"] []
  mkc : Mk K C a_RankingD_initD
  q_Ranking_row : Addr
  a_Ranking_row : Addr
  fd_Ranking_row : FuncData
  F_Ranking_row : Fun K "row" "Ranking.row" st_Ranking_row a_Ranking_row fd_Ranking_row
  b_Ranking_row : Binds K fd_Ranking_row ["self"] []
  p_row : PropOf K C "row" q_Ranking_row a_Ranking_row
  a_Ranking_best : Addr
  fd_Ranking_best : FuncData
  F_Ranking_best : Fun K "best" "Ranking.best" st_Ranking_best a_Ranking_best fd_Ranking_best
  b_Ranking_best : Binds K fd_Ranking_best ["self", "menu"] []
  m_Ranking_best : Meth K C "best" a_Ranking_best
  kb_Ranking_best : KBn K fd_Ranking_best ["self", "menu"] 1 ["menu"] (fun us ws => us ++ ws) (fun vs zs => vs ++ zs)
  a_Ranking_below : Addr
  fd_Ranking_below : FuncData
  F_Ranking_below : Fun K "below" "Ranking.below" st_Ranking_below a_Ranking_below fd_Ranking_below
  b_Ranking_below : Binds K fd_Ranking_below ["self", "thing"] []
  m_Ranking_below : Meth K C "below" a_Ranking_below
  kb_Ranking_below : KBn K fd_Ranking_below ["self", "thing"] 1 ["thing"] (fun us ws => us ++ ws) (fun vs zs => vs ++ zs)
  a_Ranking_place : Addr
  fd_Ranking_place : FuncData
  F_Ranking_place : Fun K "place" "Ranking.place" st_Ranking_place a_Ranking_place fd_Ranking_place
  b_Ranking_place : Binds K fd_Ranking_place ["self", "thing"] []
  m_Ranking_place : Meth K C "place" a_Ranking_place
  kb_Ranking_place : KBn K fd_Ranking_place ["self", "thing"] 1 ["thing"] (fun us ws => us ++ ws) (fun vs zs => vs ++ zs)
  a_l_purse : Addr
  fd_l_purse : FuncData
  F_l_purse : Fun K "_law_purse" "_law_purse" st_l_purse a_l_purse fd_l_purse
  b_l_purse : Binds K fd_l_purse ["_law_script", "_law_spot"] []
  g_l_purse : mg "_law_purse" = some (.ref a_l_purse)
  a_l_draw : Addr
  fd_l_draw : FuncData
  F_l_draw : Fun K "_law_draw" "_law_draw" st_l_draw a_l_draw fd_l_draw
  b_l_draw : Binds K fd_l_draw ["_law_purse_here", "_law_many"] []
  g_l_draw : mg "_law_draw" = some (.ref a_l_draw)
  a_l_things : Addr
  fd_l_things : FuncData
  F_l_things : Fun K "_law_things" "_law_things" st_l_things a_l_things fd_l_things
  b_l_things : Binds K fd_l_things ["_law_purse_here", "_law_many"] []
  g_l_things : mg "_law_things" = some (.ref a_l_things)
  a_l_order : Addr
  fd_l_order : FuncData
  F_l_order : Fun K "_law_order" "_law_order" st_l_order a_l_order fd_l_order
  b_l_order : Binds K fd_l_order ["_law_purse_here", "_law_things_here"] []
  g_l_order : mg "_law_order" = some (.ref a_l_order)
  a_l_best : Addr
  fd_l_best : FuncData
  F_l_best : Fun K "_law_best" "_law_best" st_l_best a_l_best fd_l_best
  b_l_best : Binds K fd_l_best ["_law_row", "_law_card"] []
  g_l_best : mg "_law_best" = some (.ref a_l_best)
  a_l_menus : Addr
  fd_l_menus : FuncData
  F_l_menus : Fun K "_law_menus" "_law_menus" st_l_menus a_l_menus fd_l_menus
  b_l_menus : Binds K fd_l_menus ["_law_things_here"] []
  g_l_menus : mg "_law_menus" = some (.ref a_l_menus)
  a_l_right : Addr
  fd_l_right : FuncData
  F_l_right : Fun K "_law_right" "_law_right" st_l_right a_l_right fd_l_right
  b_l_right : Binds K fd_l_right ["_law_purse_here"] []
  g_l_right : mg "_law_right" = some (.ref a_l_right)
  a_law : Addr
  fd_law : FuncData
  F_law : Fun K "law" "law" st_law a_law fd_law
  b_law : Binds K fd_law ["_law_script"] []
  g_law : mg "law" = some (.ref a_law)
  g_MOST_THINGS : ∃ t : Tok, mg "MOST_THINGS" = some (.int 10 t)
  g_LETTERS : ∃ t : Tok, mg "LETTERS" = some (.str "abcdefghijklmnopqrstuvwxyz" t)
  g_DIGITS : ∃ t : Tok, mg "DIGITS" = some (.str "0123456789" t)
  g_LONGEST_NAME : ∃ t : Tok, mg "LONGEST_NAME" = some (.int 8 t)
  n_len : mg "len" = none
  n_isinstance : mg "isinstance" = none
  n_all : mg "all" = none
  n_enumerate : mg "enumerate" = none
  n_tuple : mg "tuple" = none
  n_sorted : mg "sorted" = none
  n_abs : mg "abs" = none
  n_int : mg "int" = none
  n_divmod : mg "divmod" = none
  n_range : mg "range" = none
  n_list : mg "list" = none
  n_repr : mg "repr" = none
  n_max : mg "max" = none
  n_min : mg "min" = none
  n_str : mg "str" = none
  n_bool : mg "bool" = none
theorem tx_of {K : PySem.W.Frag} {h : Heap} {mg : Str → Option Value} {fa : Addr} (X : K.In h) (G : h.Ns mainGlobals mg) (hfa : mg "law" = some (.ref fa))
    {C_Ranking : Addr}
    {f_is_index : Addr} {od_is_index an_is_index : Option Addr} {sl_is_index : Array (Option Value)} {oc_is_index kV_is_index dc_is_index pm_is_index cd_is_index ct_is_index : Value}
    {f_is_name : Addr} {od_is_name an_is_name : Option Addr} {sl_is_name : Array (Option Value)} {oc_is_name kV_is_name dc_is_name pm_is_name cd_is_name ct_is_name : Value}
    {f_is_filled_tuple : Addr} {od_is_filled_tuple an_is_filled_tuple : Option Addr} {sl_is_filled_tuple : Array (Option Value)} {oc_is_filled_tuple kV_is_filled_tuple dc_is_filled_tuple pm_is_filled_tuple cd_is_filled_tuple ct_is_filled_tuple : Value}
    {f_is_one_of : Addr} {od_is_one_of an_is_one_of : Option Addr} {sl_is_one_of : Array (Option Value)} {oc_is_one_of kV_is_one_of dc_is_one_of pm_is_one_of cd_is_one_of ct_is_one_of : Value}
    {f_first_wrong_in_row : Addr} {od_first_wrong_in_row an_first_wrong_in_row : Option Addr} {sl_first_wrong_in_row : Array (Option Value)} {oc_first_wrong_in_row kV_first_wrong_in_row dc_first_wrong_in_row pm_first_wrong_in_row cd_first_wrong_in_row ct_first_wrong_in_row : Value}
    {f_first_wrong_on_menu : Addr} {od_first_wrong_on_menu an_first_wrong_on_menu : Option Addr} {sl_first_wrong_on_menu : Array (Option Value)} {oc_first_wrong_on_menu kV_first_wrong_on_menu dc_first_wrong_on_menu pm_first_wrong_on_menu cd_first_wrong_on_menu ct_first_wrong_on_menu : Value}
    {f_index_of : Addr} {od_index_of an_index_of : Option Addr} {sl_index_of : Array (Option Value)} {oc_index_of kV_index_of dc_index_of pm_index_of cd_index_of ct_index_of : Value}
    {f_check_row : Addr} {od_check_row an_check_row : Option Addr} {sl_check_row : Array (Option Value)} {oc_check_row kV_check_row dc_check_row pm_check_row cd_check_row ct_check_row : Value}
    {f_check_menu : Addr} {od_check_menu an_check_menu : Option Addr} {sl_check_menu : Array (Option Value)} {oc_check_menu kV_check_menu dc_check_menu pm_check_menu cd_check_menu ct_check_menu : Value}
    {f_check_thing : Addr} {od_check_thing an_check_thing : Option Addr} {sl_check_thing : Array (Option Value)} {oc_check_thing kV_check_thing dc_check_thing pm_check_thing cd_check_thing ct_check_thing : Value}
    {f_RankingD_initD : Addr} {od_RankingD_initD an_RankingD_initD : Option Addr} {sl_RankingD_initD : Array (Option Value)} {oc_RankingD_initD kV_RankingD_initD dc_RankingD_initD pm_RankingD_initD cd_RankingD_initD ct_RankingD_initD : Value}
    {f_Ranking_row : Addr} {od_Ranking_row an_Ranking_row : Option Addr} {sl_Ranking_row : Array (Option Value)} {oc_Ranking_row kV_Ranking_row dc_Ranking_row pm_Ranking_row cd_Ranking_row ct_Ranking_row : Value}
    {q_Ranking_row : Addr} {rest_Ranking_row : List Value}
    {f_Ranking_best : Addr} {od_Ranking_best an_Ranking_best : Option Addr} {sl_Ranking_best : Array (Option Value)} {oc_Ranking_best kV_Ranking_best dc_Ranking_best pm_Ranking_best cd_Ranking_best ct_Ranking_best : Value}
    {f_Ranking_below : Addr} {od_Ranking_below an_Ranking_below : Option Addr} {sl_Ranking_below : Array (Option Value)} {oc_Ranking_below kV_Ranking_below dc_Ranking_below pm_Ranking_below cd_Ranking_below ct_Ranking_below : Value}
    {f_Ranking_place : Addr} {od_Ranking_place an_Ranking_place : Option Addr} {sl_Ranking_place : Array (Option Value)} {oc_Ranking_place kV_Ranking_place dc_Ranking_place pm_Ranking_place cd_Ranking_place ct_Ranking_place : Value}
    {f_l_purse : Addr} {od_l_purse an_l_purse : Option Addr} {sl_l_purse : Array (Option Value)} {oc_l_purse kV_l_purse dc_l_purse pm_l_purse cd_l_purse ct_l_purse : Value}
    {f_l_draw : Addr} {od_l_draw an_l_draw : Option Addr} {sl_l_draw : Array (Option Value)} {oc_l_draw kV_l_draw dc_l_draw pm_l_draw cd_l_draw ct_l_draw : Value}
    {f_l_things : Addr} {od_l_things an_l_things : Option Addr} {sl_l_things : Array (Option Value)} {oc_l_things kV_l_things dc_l_things pm_l_things cd_l_things ct_l_things : Value}
    {f_l_order : Addr} {od_l_order an_l_order : Option Addr} {sl_l_order : Array (Option Value)} {oc_l_order kV_l_order dc_l_order pm_l_order cd_l_order ct_l_order : Value}
    {f_l_best : Addr} {od_l_best an_l_best : Option Addr} {sl_l_best : Array (Option Value)} {oc_l_best kV_l_best dc_l_best pm_l_best cd_l_best ct_l_best : Value}
    {f_l_menus : Addr} {od_l_menus an_l_menus : Option Addr} {sl_l_menus : Array (Option Value)} {oc_l_menus kV_l_menus dc_l_menus pm_l_menus cd_l_menus ct_l_menus : Value}
    {f_l_right : Addr} {od_l_right an_l_right : Option Addr} {sl_l_right : Array (Option Value)} {oc_l_right kV_l_right dc_l_right pm_l_right cd_l_right ct_l_right : Value}
    {f_law : Addr} {od_law an_law : Option Addr} {sl_law : Array (Option Value)} {oc_law kV_law dc_law pm_law cd_law ct_law : Value}
    {t_MOST_THINGS : Tok}
    {t_LETTERS : Tok}
    {t_DIGITS : Tok}
    {t_LONGEST_NAME : Tok}
    (cg_Ranking : PySem.W.nsIn K mainGlobals "Ranking" = some (some (.ref C_Ranking)))
    (cp_Ranking : PySem.W.plainGet K C_Ranking Str.empty = true)
    (ch_Ranking : PySem.W.hasDictIn K C_Ranking = true)
    (co_Ranking : PySem.W.plainOver K C_Ranking = true)
    (cs_Ranking : PySem.W.findIn K (.ref C_Ranking) "__setattr__" = some (some (.builtin "object.__setattr__")))
    (cm_Ranking : PySem.W.makesIn K C_Ranking = true)
    (ck_Ranking : PySem.W.keepIn K (.ref C_Ranking) = true)
    (cn_Ranking__row : PySem.W.findIn K (.ref C_Ranking) "_row" = some none)
    (cn_Ranking__things : PySem.W.findIn K (.ref C_Ranking) "_things" = some none)
    (a_is_index : PySem.W.nsIn K mainGlobals "is_index" = some (some (.ref f_is_index)))
    (l_is_index : K.lookup f_is_index = some ⟨oc_is_index, od_is_index, .func (PySem.W.fnOf "is_index" "is_index" (defArgs st_is_index) (defBody st_is_index) (defScope st_is_index) .none kV_is_index dc_is_index pm_is_index an_is_index cd_is_index ct_is_index), sl_is_index⟩)
    (c_is_index : PySem.W.codeIn K cd_is_index "is_index" = true)
    (k_is_index : PySem.W.keepIn K (.ref f_is_index) = true)
    (a_is_name : PySem.W.nsIn K mainGlobals "is_name" = some (some (.ref f_is_name)))
    (l_is_name : K.lookup f_is_name = some ⟨oc_is_name, od_is_name, .func (PySem.W.fnOf "is_name" "is_name" (defArgs st_is_name) (defBody st_is_name) (defScope st_is_name) .none kV_is_name dc_is_name pm_is_name an_is_name cd_is_name ct_is_name), sl_is_name⟩)
    (c_is_name : PySem.W.codeIn K cd_is_name "is_name" = true)
    (k_is_name : PySem.W.keepIn K (.ref f_is_name) = true)
    (a_is_filled_tuple : PySem.W.nsIn K mainGlobals "is_filled_tuple" = some (some (.ref f_is_filled_tuple)))
    (l_is_filled_tuple : K.lookup f_is_filled_tuple = some ⟨oc_is_filled_tuple, od_is_filled_tuple, .func (PySem.W.fnOf "is_filled_tuple" "is_filled_tuple" (defArgs st_is_filled_tuple) (defBody st_is_filled_tuple) (defScope st_is_filled_tuple) .none kV_is_filled_tuple dc_is_filled_tuple pm_is_filled_tuple an_is_filled_tuple cd_is_filled_tuple ct_is_filled_tuple), sl_is_filled_tuple⟩)
    (c_is_filled_tuple : PySem.W.codeIn K cd_is_filled_tuple "is_filled_tuple" = true)
    (k_is_filled_tuple : PySem.W.keepIn K (.ref f_is_filled_tuple) = true)
    (a_is_one_of : PySem.W.nsIn K mainGlobals "is_one_of" = some (some (.ref f_is_one_of)))
    (l_is_one_of : K.lookup f_is_one_of = some ⟨oc_is_one_of, od_is_one_of, .func (PySem.W.fnOf "is_one_of" "is_one_of" (defArgs st_is_one_of) (defBody st_is_one_of) (defScope st_is_one_of) .none kV_is_one_of dc_is_one_of pm_is_one_of an_is_one_of cd_is_one_of ct_is_one_of), sl_is_one_of⟩)
    (c_is_one_of : PySem.W.codeIn K cd_is_one_of "is_one_of" = true)
    (k_is_one_of : PySem.W.keepIn K (.ref f_is_one_of) = true)
    (a_first_wrong_in_row : PySem.W.nsIn K mainGlobals "first_wrong_in_row" = some (some (.ref f_first_wrong_in_row)))
    (l_first_wrong_in_row : K.lookup f_first_wrong_in_row = some ⟨oc_first_wrong_in_row, od_first_wrong_in_row, .func (PySem.W.fnOf "first_wrong_in_row" "first_wrong_in_row" (defArgs st_first_wrong_in_row) (defBody st_first_wrong_in_row) (defScope st_first_wrong_in_row) .none kV_first_wrong_in_row dc_first_wrong_in_row pm_first_wrong_in_row an_first_wrong_in_row cd_first_wrong_in_row ct_first_wrong_in_row), sl_first_wrong_in_row⟩)
    (c_first_wrong_in_row : PySem.W.codeIn K cd_first_wrong_in_row "first_wrong_in_row" = true)
    (k_first_wrong_in_row : PySem.W.keepIn K (.ref f_first_wrong_in_row) = true)
    (a_first_wrong_on_menu : PySem.W.nsIn K mainGlobals "first_wrong_on_menu" = some (some (.ref f_first_wrong_on_menu)))
    (l_first_wrong_on_menu : K.lookup f_first_wrong_on_menu = some ⟨oc_first_wrong_on_menu, od_first_wrong_on_menu, .func (PySem.W.fnOf "first_wrong_on_menu" "first_wrong_on_menu" (defArgs st_first_wrong_on_menu) (defBody st_first_wrong_on_menu) (defScope st_first_wrong_on_menu) .none kV_first_wrong_on_menu dc_first_wrong_on_menu pm_first_wrong_on_menu an_first_wrong_on_menu cd_first_wrong_on_menu ct_first_wrong_on_menu), sl_first_wrong_on_menu⟩)
    (c_first_wrong_on_menu : PySem.W.codeIn K cd_first_wrong_on_menu "first_wrong_on_menu" = true)
    (k_first_wrong_on_menu : PySem.W.keepIn K (.ref f_first_wrong_on_menu) = true)
    (a_index_of : PySem.W.nsIn K mainGlobals "index_of" = some (some (.ref f_index_of)))
    (l_index_of : K.lookup f_index_of = some ⟨oc_index_of, od_index_of, .func (PySem.W.fnOf "index_of" "index_of" (defArgs st_index_of) (defBody st_index_of) (defScope st_index_of) .none kV_index_of dc_index_of pm_index_of an_index_of cd_index_of ct_index_of), sl_index_of⟩)
    (c_index_of : PySem.W.codeIn K cd_index_of "index_of" = true)
    (k_index_of : PySem.W.keepIn K (.ref f_index_of) = true)
    (a_check_row : PySem.W.nsIn K mainGlobals "check_row" = some (some (.ref f_check_row)))
    (l_check_row : K.lookup f_check_row = some ⟨oc_check_row, od_check_row, .func (PySem.W.fnOf "check_row" "check_row" (defArgs st_check_row) (defBody st_check_row) (defScope st_check_row) .none kV_check_row dc_check_row pm_check_row an_check_row cd_check_row ct_check_row), sl_check_row⟩)
    (c_check_row : PySem.W.codeIn K cd_check_row "check_row" = true)
    (k_check_row : PySem.W.keepIn K (.ref f_check_row) = true)
    (a_check_menu : PySem.W.nsIn K mainGlobals "check_menu" = some (some (.ref f_check_menu)))
    (l_check_menu : K.lookup f_check_menu = some ⟨oc_check_menu, od_check_menu, .func (PySem.W.fnOf "check_menu" "check_menu" (defArgs st_check_menu) (defBody st_check_menu) (defScope st_check_menu) .none kV_check_menu dc_check_menu pm_check_menu an_check_menu cd_check_menu ct_check_menu), sl_check_menu⟩)
    (c_check_menu : PySem.W.codeIn K cd_check_menu "check_menu" = true)
    (k_check_menu : PySem.W.keepIn K (.ref f_check_menu) = true)
    (a_check_thing : PySem.W.nsIn K mainGlobals "check_thing" = some (some (.ref f_check_thing)))
    (l_check_thing : K.lookup f_check_thing = some ⟨oc_check_thing, od_check_thing, .func (PySem.W.fnOf "check_thing" "check_thing" (defArgs st_check_thing) (defBody st_check_thing) (defScope st_check_thing) .none kV_check_thing dc_check_thing pm_check_thing an_check_thing cd_check_thing ct_check_thing), sl_check_thing⟩)
    (c_check_thing : PySem.W.codeIn K cd_check_thing "check_thing" = true)
    (k_check_thing : PySem.W.keepIn K (.ref f_check_thing) = true)
    (a_RankingD_initD : PySem.W.findIn K (.ref C_Ranking) "__init__" = some (some (.ref f_RankingD_initD)))
    (i_RankingD_initD : PySem.W.isFn K (.ref f_RankingD_initD) = true)
    (l_RankingD_initD : K.lookup f_RankingD_initD = some ⟨oc_RankingD_initD, od_RankingD_initD, .func (PySem.W.fnOf "__init__" "Ranking.__init__" (defArgs st_RankingD_initD) (defBody st_RankingD_initD) (defScope st_RankingD_initD) .none kV_RankingD_initD dc_RankingD_initD pm_RankingD_initD an_RankingD_initD cd_RankingD_initD ct_RankingD_initD), sl_RankingD_initD⟩)
    (c_RankingD_initD : PySem.W.codeIn K cd_RankingD_initD "Ranking.__init__" = true)
    (k_RankingD_initD : PySem.W.keepIn K (.ref f_RankingD_initD) = true)
    (a_Ranking_row : PySem.W.findIn K (.ref C_Ranking) "row" = some (some (.ref q_Ranking_row)))
    (pg_Ranking_row : PySem.W.specialIn K (.ref q_Ranking_row) "__get__" = some (some (.builtin "property.__get__")))
    (pt_Ranking_row : PySem.W.takesIn K (.ref q_Ranking_row) = some true)
    (pr_Ranking_row : PySem.W.recIn K q_Ranking_row "property" = some (.ref f_Ranking_row :: rest_Ranking_row))
    (l_Ranking_row : K.lookup f_Ranking_row = some ⟨oc_Ranking_row, od_Ranking_row, .func (PySem.W.fnOf "row" "Ranking.row" (defArgs st_Ranking_row) (defBody st_Ranking_row) (defScope st_Ranking_row) .none kV_Ranking_row dc_Ranking_row pm_Ranking_row an_Ranking_row cd_Ranking_row ct_Ranking_row), sl_Ranking_row⟩)
    (c_Ranking_row : PySem.W.codeIn K cd_Ranking_row "Ranking.row" = true)
    (k_Ranking_row : PySem.W.keepIn K (.ref f_Ranking_row) = true)
    (a_Ranking_best : PySem.W.findIn K (.ref C_Ranking) "best" = some (some (.ref f_Ranking_best)))
    (i_Ranking_best : PySem.W.isFn K (.ref f_Ranking_best) = true)
    (l_Ranking_best : K.lookup f_Ranking_best = some ⟨oc_Ranking_best, od_Ranking_best, .func (PySem.W.fnOf "best" "Ranking.best" (defArgs st_Ranking_best) (defBody st_Ranking_best) (defScope st_Ranking_best) .none kV_Ranking_best dc_Ranking_best pm_Ranking_best an_Ranking_best cd_Ranking_best ct_Ranking_best), sl_Ranking_best⟩)
    (c_Ranking_best : PySem.W.codeIn K cd_Ranking_best "Ranking.best" = true)
    (k_Ranking_best : PySem.W.keepIn K (.ref f_Ranking_best) = true)
    (a_Ranking_below : PySem.W.findIn K (.ref C_Ranking) "below" = some (some (.ref f_Ranking_below)))
    (i_Ranking_below : PySem.W.isFn K (.ref f_Ranking_below) = true)
    (l_Ranking_below : K.lookup f_Ranking_below = some ⟨oc_Ranking_below, od_Ranking_below, .func (PySem.W.fnOf "below" "Ranking.below" (defArgs st_Ranking_below) (defBody st_Ranking_below) (defScope st_Ranking_below) .none kV_Ranking_below dc_Ranking_below pm_Ranking_below an_Ranking_below cd_Ranking_below ct_Ranking_below), sl_Ranking_below⟩)
    (c_Ranking_below : PySem.W.codeIn K cd_Ranking_below "Ranking.below" = true)
    (k_Ranking_below : PySem.W.keepIn K (.ref f_Ranking_below) = true)
    (a_Ranking_place : PySem.W.findIn K (.ref C_Ranking) "place" = some (some (.ref f_Ranking_place)))
    (i_Ranking_place : PySem.W.isFn K (.ref f_Ranking_place) = true)
    (l_Ranking_place : K.lookup f_Ranking_place = some ⟨oc_Ranking_place, od_Ranking_place, .func (PySem.W.fnOf "place" "Ranking.place" (defArgs st_Ranking_place) (defBody st_Ranking_place) (defScope st_Ranking_place) .none kV_Ranking_place dc_Ranking_place pm_Ranking_place an_Ranking_place cd_Ranking_place ct_Ranking_place), sl_Ranking_place⟩)
    (c_Ranking_place : PySem.W.codeIn K cd_Ranking_place "Ranking.place" = true)
    (k_Ranking_place : PySem.W.keepIn K (.ref f_Ranking_place) = true)
    (a_l_purse : PySem.W.nsIn K mainGlobals "_law_purse" = some (some (.ref f_l_purse)))
    (l_l_purse : K.lookup f_l_purse = some ⟨oc_l_purse, od_l_purse, .func (PySem.W.fnOf "_law_purse" "_law_purse" (defArgs st_l_purse) (defBody st_l_purse) (defScope st_l_purse) .none kV_l_purse dc_l_purse pm_l_purse an_l_purse cd_l_purse ct_l_purse), sl_l_purse⟩)
    (c_l_purse : PySem.W.codeIn K cd_l_purse "_law_purse" = true)
    (k_l_purse : PySem.W.keepIn K (.ref f_l_purse) = true)
    (a_l_draw : PySem.W.nsIn K mainGlobals "_law_draw" = some (some (.ref f_l_draw)))
    (l_l_draw : K.lookup f_l_draw = some ⟨oc_l_draw, od_l_draw, .func (PySem.W.fnOf "_law_draw" "_law_draw" (defArgs st_l_draw) (defBody st_l_draw) (defScope st_l_draw) .none kV_l_draw dc_l_draw pm_l_draw an_l_draw cd_l_draw ct_l_draw), sl_l_draw⟩)
    (c_l_draw : PySem.W.codeIn K cd_l_draw "_law_draw" = true)
    (k_l_draw : PySem.W.keepIn K (.ref f_l_draw) = true)
    (a_l_things : PySem.W.nsIn K mainGlobals "_law_things" = some (some (.ref f_l_things)))
    (l_l_things : K.lookup f_l_things = some ⟨oc_l_things, od_l_things, .func (PySem.W.fnOf "_law_things" "_law_things" (defArgs st_l_things) (defBody st_l_things) (defScope st_l_things) .none kV_l_things dc_l_things pm_l_things an_l_things cd_l_things ct_l_things), sl_l_things⟩)
    (c_l_things : PySem.W.codeIn K cd_l_things "_law_things" = true)
    (k_l_things : PySem.W.keepIn K (.ref f_l_things) = true)
    (a_l_order : PySem.W.nsIn K mainGlobals "_law_order" = some (some (.ref f_l_order)))
    (l_l_order : K.lookup f_l_order = some ⟨oc_l_order, od_l_order, .func (PySem.W.fnOf "_law_order" "_law_order" (defArgs st_l_order) (defBody st_l_order) (defScope st_l_order) .none kV_l_order dc_l_order pm_l_order an_l_order cd_l_order ct_l_order), sl_l_order⟩)
    (c_l_order : PySem.W.codeIn K cd_l_order "_law_order" = true)
    (k_l_order : PySem.W.keepIn K (.ref f_l_order) = true)
    (a_l_best : PySem.W.nsIn K mainGlobals "_law_best" = some (some (.ref f_l_best)))
    (l_l_best : K.lookup f_l_best = some ⟨oc_l_best, od_l_best, .func (PySem.W.fnOf "_law_best" "_law_best" (defArgs st_l_best) (defBody st_l_best) (defScope st_l_best) .none kV_l_best dc_l_best pm_l_best an_l_best cd_l_best ct_l_best), sl_l_best⟩)
    (c_l_best : PySem.W.codeIn K cd_l_best "_law_best" = true)
    (k_l_best : PySem.W.keepIn K (.ref f_l_best) = true)
    (a_l_menus : PySem.W.nsIn K mainGlobals "_law_menus" = some (some (.ref f_l_menus)))
    (l_l_menus : K.lookup f_l_menus = some ⟨oc_l_menus, od_l_menus, .func (PySem.W.fnOf "_law_menus" "_law_menus" (defArgs st_l_menus) (defBody st_l_menus) (defScope st_l_menus) .none kV_l_menus dc_l_menus pm_l_menus an_l_menus cd_l_menus ct_l_menus), sl_l_menus⟩)
    (c_l_menus : PySem.W.codeIn K cd_l_menus "_law_menus" = true)
    (k_l_menus : PySem.W.keepIn K (.ref f_l_menus) = true)
    (a_l_right : PySem.W.nsIn K mainGlobals "_law_right" = some (some (.ref f_l_right)))
    (l_l_right : K.lookup f_l_right = some ⟨oc_l_right, od_l_right, .func (PySem.W.fnOf "_law_right" "_law_right" (defArgs st_l_right) (defBody st_l_right) (defScope st_l_right) .none kV_l_right dc_l_right pm_l_right an_l_right cd_l_right ct_l_right), sl_l_right⟩)
    (c_l_right : PySem.W.codeIn K cd_l_right "_law_right" = true)
    (k_l_right : PySem.W.keepIn K (.ref f_l_right) = true)
    (a_law : PySem.W.nsIn K mainGlobals "law" = some (some (.ref f_law)))
    (l_law : K.lookup f_law = some ⟨oc_law, od_law, .func (PySem.W.fnOf "law" "law" (defArgs st_law) (defBody st_law) (defScope st_law) .none kV_law dc_law pm_law an_law cd_law ct_law), sl_law⟩)
    (c_law : PySem.W.codeIn K cd_law "law" = true)
    (k_law : PySem.W.keepIn K (.ref f_law) = true)
    (v_MOST_THINGS : PySem.W.nsIn K mainGlobals "MOST_THINGS" = some (some (.int 10 t_MOST_THINGS)))
    (v_LETTERS : PySem.W.nsIn K mainGlobals "LETTERS" = some (some (.str "abcdefghijklmnopqrstuvwxyz" t_LETTERS)))
    (v_DIGITS : PySem.W.nsIn K mainGlobals "DIGITS" = some (some (.str "0123456789" t_DIGITS)))
    (v_LONGEST_NAME : PySem.W.nsIn K mainGlobals "LONGEST_NAME" = some (some (.int 8 t_LONGEST_NAME)))
    (z_len : PySem.W.nsIn K mainGlobals "len" = some none)
    (z_isinstance : PySem.W.nsIn K mainGlobals "isinstance" = some none)
    (z_all : PySem.W.nsIn K mainGlobals "all" = some none)
    (z_enumerate : PySem.W.nsIn K mainGlobals "enumerate" = some none)
    (z_tuple : PySem.W.nsIn K mainGlobals "tuple" = some none)
    (z_sorted : PySem.W.nsIn K mainGlobals "sorted" = some none)
    (z_abs : PySem.W.nsIn K mainGlobals "abs" = some none)
    (z_int : PySem.W.nsIn K mainGlobals "int" = some none)
    (z_divmod : PySem.W.nsIn K mainGlobals "divmod" = some none)
    (z_range : PySem.W.nsIn K mainGlobals "range" = some none)
    (z_list : PySem.W.nsIn K mainGlobals "list" = some none)
    (z_repr : PySem.W.nsIn K mainGlobals "repr" = some none)
    (z_max : PySem.W.nsIn K mainGlobals "max" = some none)
    (z_min : PySem.W.nsIn K mainGlobals "min" = some none)
    (z_str : PySem.W.nsIn K mainGlobals "str" = some none)
    (z_bool : PySem.W.nsIn K mainGlobals "bool" = some none) : ∃ T : Tx K mg, T.a_law = fa := by
  have e := hfa.symm.trans (PySem.W.mg_of X G a_law)
  cases e
  exact ⟨{
    C := C_Ranking
    cl := ⟨cp_Ranking, ch_Ranking, co_Ranking, cs_Ranking⟩
    g_Ranking := PySem.W.mg_of X G cg_Ranking
    no__row := cn_Ranking__row
    no__things := cn_Ranking__things
    a_is_index := f_is_index
    fd_is_index := _
    F_is_index := fun_mk (st := st_is_index) l_is_index c_is_index k_is_index
    b_is_index := (fun_mk (st := st_is_index) l_is_index c_is_index k_is_index).binds (ps := ["value", "many"]) fun _ _ _ _ _ _ us hl => match us, hl with | [_, _], _ => rfl
    g_is_index := PySem.W.mg_of X G a_is_index
    a_is_name := f_is_name
    fd_is_name := _
    F_is_name := fun_mk (st := st_is_name) l_is_name c_is_name k_is_name
    b_is_name := (fun_mk (st := st_is_name) l_is_name c_is_name k_is_name).binds (ps := ["value"]) fun _ _ _ _ _ _ us hl => match us, hl with | [_], _ => rfl
    g_is_name := PySem.W.mg_of X G a_is_name
    a_is_filled_tuple := f_is_filled_tuple
    fd_is_filled_tuple := _
    F_is_filled_tuple := fun_mk (st := st_is_filled_tuple) l_is_filled_tuple c_is_filled_tuple k_is_filled_tuple
    b_is_filled_tuple := (fun_mk (st := st_is_filled_tuple) l_is_filled_tuple c_is_filled_tuple k_is_filled_tuple).binds (ps := ["value"]) fun _ _ _ _ _ _ us hl => match us, hl with | [_], _ => rfl
    g_is_filled_tuple := PySem.W.mg_of X G a_is_filled_tuple
    a_is_one_of := f_is_one_of
    fd_is_one_of := _
    F_is_one_of := fun_mk (st := st_is_one_of) l_is_one_of c_is_one_of k_is_one_of
    b_is_one_of := (fun_mk (st := st_is_one_of) l_is_one_of c_is_one_of k_is_one_of).binds (ps := ["value", "things"]) fun _ _ _ _ _ _ us hl => match us, hl with | [_, _], _ => rfl
    g_is_one_of := PySem.W.mg_of X G a_is_one_of
    a_first_wrong_in_row := f_first_wrong_in_row
    fd_first_wrong_in_row := _
    F_first_wrong_in_row := fun_mk (st := st_first_wrong_in_row) l_first_wrong_in_row c_first_wrong_in_row k_first_wrong_in_row
    b_first_wrong_in_row := (fun_mk (st := st_first_wrong_in_row) l_first_wrong_in_row c_first_wrong_in_row k_first_wrong_in_row).binds (ps := ["row"]) fun _ _ _ _ _ _ us hl => match us, hl with | [_], _ => rfl
    g_first_wrong_in_row := PySem.W.mg_of X G a_first_wrong_in_row
    a_first_wrong_on_menu := f_first_wrong_on_menu
    fd_first_wrong_on_menu := _
    F_first_wrong_on_menu := fun_mk (st := st_first_wrong_on_menu) l_first_wrong_on_menu c_first_wrong_on_menu k_first_wrong_on_menu
    b_first_wrong_on_menu := (fun_mk (st := st_first_wrong_on_menu) l_first_wrong_on_menu c_first_wrong_on_menu k_first_wrong_on_menu).binds (ps := ["menu", "things"]) fun _ _ _ _ _ _ us hl => match us, hl with | [_, _], _ => rfl
    g_first_wrong_on_menu := PySem.W.mg_of X G a_first_wrong_on_menu
    a_index_of := f_index_of
    fd_index_of := _
    F_index_of := fun_mk (st := st_index_of) l_index_of c_index_of k_index_of
    b_index_of := (fun_mk (st := st_index_of) l_index_of c_index_of k_index_of).binds (ps := ["name", "names"]) fun _ _ _ _ _ _ us hl => match us, hl with | [_, _], _ => rfl
    g_index_of := PySem.W.mg_of X G a_index_of
    a_check_row := f_check_row
    fd_check_row := _
    F_check_row := fun_mk (st := st_check_row) l_check_row c_check_row k_check_row
    b_check_row := (fun_mk (st := st_check_row) l_check_row c_check_row k_check_row).binds (ps := ["row"]) fun _ _ _ _ _ _ us hl => match us, hl with | [_], _ => rfl
    g_check_row := PySem.W.mg_of X G a_check_row
    a_check_menu := f_check_menu
    fd_check_menu := _
    F_check_menu := fun_mk (st := st_check_menu) l_check_menu c_check_menu k_check_menu
    b_check_menu := (fun_mk (st := st_check_menu) l_check_menu c_check_menu k_check_menu).binds (ps := ["menu", "things"]) fun _ _ _ _ _ _ us hl => match us, hl with | [_, _], _ => rfl
    g_check_menu := PySem.W.mg_of X G a_check_menu
    a_check_thing := f_check_thing
    fd_check_thing := _
    F_check_thing := fun_mk (st := st_check_thing) l_check_thing c_check_thing k_check_thing
    b_check_thing := (fun_mk (st := st_check_thing) l_check_thing c_check_thing k_check_thing).binds (ps := ["thing", "things"]) fun _ _ _ _ _ _ us hl => match us, hl with | [_, _], _ => rfl
    g_check_thing := PySem.W.mg_of X G a_check_thing
    a_RankingD_initD := f_RankingD_initD
    fd_RankingD_initD := _
    F_RankingD_initD := fun_mk (st := st_RankingD_initD) l_RankingD_initD c_RankingD_initD k_RankingD_initD
    b_RankingD_initD := (fun_mk (st := st_RankingD_initD) l_RankingD_initD c_RankingD_initD k_RankingD_initD).binds (ps := ["self", "row"]) fun _ _ _ _ _ _ us hl => match us, hl with | [_, _], _ => rfl
    mkc := ⟨cm_Ranking, a_RankingD_initD, i_RankingD_initD, ck_Ranking⟩
    a_Ranking_row := f_Ranking_row
    fd_Ranking_row := _
    F_Ranking_row := fun_mk (st := st_Ranking_row) l_Ranking_row c_Ranking_row k_Ranking_row
    b_Ranking_row := (fun_mk (st := st_Ranking_row) l_Ranking_row c_Ranking_row k_Ranking_row).binds (ps := ["self"]) fun _ _ _ _ _ _ us hl => match us, hl with | [_], _ => rfl
    q_Ranking_row := q_Ranking_row
    p_row := ⟨a_Ranking_row, pg_Ranking_row, pt_Ranking_row, ⟨_, pr_Ranking_row⟩⟩
    a_Ranking_best := f_Ranking_best
    fd_Ranking_best := _
    F_Ranking_best := fun_mk (st := st_Ranking_best) l_Ranking_best c_Ranking_best k_Ranking_best
    b_Ranking_best := (fun_mk (st := st_Ranking_best) l_Ranking_best c_Ranking_best k_Ranking_best).binds (ps := ["self", "menu"]) fun _ _ _ _ _ _ us hl => match us, hl with | [_, _], _ => rfl
    m_Ranking_best := ⟨a_Ranking_best, i_Ranking_best, k_Ranking_best⟩
    kb_Ranking_best := ⟨fun _ us ws _ l1 l2 => match us, l1, ws, l2 with | [_], _, [_], _ => .of_eq rfl, fun r1 r2 => r1.append r2⟩
    a_Ranking_below := f_Ranking_below
    fd_Ranking_below := _
    F_Ranking_below := fun_mk (st := st_Ranking_below) l_Ranking_below c_Ranking_below k_Ranking_below
    b_Ranking_below := (fun_mk (st := st_Ranking_below) l_Ranking_below c_Ranking_below k_Ranking_below).binds (ps := ["self", "thing"]) fun _ _ _ _ _ _ us hl => match us, hl with | [_, _], _ => rfl
    m_Ranking_below := ⟨a_Ranking_below, i_Ranking_below, k_Ranking_below⟩
    kb_Ranking_below := ⟨fun _ us ws _ l1 l2 => match us, l1, ws, l2 with | [_], _, [_], _ => .of_eq rfl, fun r1 r2 => r1.append r2⟩
    a_Ranking_place := f_Ranking_place
    fd_Ranking_place := _
    F_Ranking_place := fun_mk (st := st_Ranking_place) l_Ranking_place c_Ranking_place k_Ranking_place
    b_Ranking_place := (fun_mk (st := st_Ranking_place) l_Ranking_place c_Ranking_place k_Ranking_place).binds (ps := ["self", "thing"]) fun _ _ _ _ _ _ us hl => match us, hl with | [_, _], _ => rfl
    m_Ranking_place := ⟨a_Ranking_place, i_Ranking_place, k_Ranking_place⟩
    kb_Ranking_place := ⟨fun _ us ws _ l1 l2 => match us, l1, ws, l2 with | [_], _, [_], _ => .of_eq rfl, fun r1 r2 => r1.append r2⟩
    a_l_purse := f_l_purse
    fd_l_purse := _
    F_l_purse := fun_mk (st := st_l_purse) l_l_purse c_l_purse k_l_purse
    b_l_purse := (fun_mk (st := st_l_purse) l_l_purse c_l_purse k_l_purse).binds (ps := ["_law_script", "_law_spot"]) fun _ _ _ _ _ _ us hl => match us, hl with | [_, _], _ => rfl
    g_l_purse := PySem.W.mg_of X G a_l_purse
    a_l_draw := f_l_draw
    fd_l_draw := _
    F_l_draw := fun_mk (st := st_l_draw) l_l_draw c_l_draw k_l_draw
    b_l_draw := (fun_mk (st := st_l_draw) l_l_draw c_l_draw k_l_draw).binds (ps := ["_law_purse_here", "_law_many"]) fun _ _ _ _ _ _ us hl => match us, hl with | [_, _], _ => rfl
    g_l_draw := PySem.W.mg_of X G a_l_draw
    a_l_things := f_l_things
    fd_l_things := _
    F_l_things := fun_mk (st := st_l_things) l_l_things c_l_things k_l_things
    b_l_things := (fun_mk (st := st_l_things) l_l_things c_l_things k_l_things).binds (ps := ["_law_purse_here", "_law_many"]) fun _ _ _ _ _ _ us hl => match us, hl with | [_, _], _ => rfl
    g_l_things := PySem.W.mg_of X G a_l_things
    a_l_order := f_l_order
    fd_l_order := _
    F_l_order := fun_mk (st := st_l_order) l_l_order c_l_order k_l_order
    b_l_order := (fun_mk (st := st_l_order) l_l_order c_l_order k_l_order).binds (ps := ["_law_purse_here", "_law_things_here"]) fun _ _ _ _ _ _ us hl => match us, hl with | [_, _], _ => rfl
    g_l_order := PySem.W.mg_of X G a_l_order
    a_l_best := f_l_best
    fd_l_best := _
    F_l_best := fun_mk (st := st_l_best) l_l_best c_l_best k_l_best
    b_l_best := (fun_mk (st := st_l_best) l_l_best c_l_best k_l_best).binds (ps := ["_law_row", "_law_card"]) fun _ _ _ _ _ _ us hl => match us, hl with | [_, _], _ => rfl
    g_l_best := PySem.W.mg_of X G a_l_best
    a_l_menus := f_l_menus
    fd_l_menus := _
    F_l_menus := fun_mk (st := st_l_menus) l_l_menus c_l_menus k_l_menus
    b_l_menus := (fun_mk (st := st_l_menus) l_l_menus c_l_menus k_l_menus).binds (ps := ["_law_things_here"]) fun _ _ _ _ _ _ us hl => match us, hl with | [_], _ => rfl
    g_l_menus := PySem.W.mg_of X G a_l_menus
    a_l_right := f_l_right
    fd_l_right := _
    F_l_right := fun_mk (st := st_l_right) l_l_right c_l_right k_l_right
    b_l_right := (fun_mk (st := st_l_right) l_l_right c_l_right k_l_right).binds (ps := ["_law_purse_here"]) fun _ _ _ _ _ _ us hl => match us, hl with | [_], _ => rfl
    g_l_right := PySem.W.mg_of X G a_l_right
    a_law := fa
    fd_law := _
    F_law := fun_mk (st := st_law) l_law c_law k_law
    b_law := (fun_mk (st := st_law) l_law c_law k_law).binds (ps := ["_law_script"]) fun _ _ _ _ _ _ us hl => match us, hl with | [_], _ => rfl
    g_law := PySem.W.mg_of X G a_law
    g_MOST_THINGS := ⟨_, PySem.W.mg_of X G v_MOST_THINGS⟩
    g_LETTERS := ⟨_, PySem.W.mg_of X G v_LETTERS⟩
    g_DIGITS := ⟨_, PySem.W.mg_of X G v_DIGITS⟩
    g_LONGEST_NAME := ⟨_, PySem.W.mg_of X G v_LONGEST_NAME⟩
    n_len := PySem.W.mg_none_of X G z_len
    n_isinstance := PySem.W.mg_none_of X G z_isinstance
    n_all := PySem.W.mg_none_of X G z_all
    n_enumerate := PySem.W.mg_none_of X G z_enumerate
    n_tuple := PySem.W.mg_none_of X G z_tuple
    n_sorted := PySem.W.mg_none_of X G z_sorted
    n_abs := PySem.W.mg_none_of X G z_abs
    n_int := PySem.W.mg_none_of X G z_int
    n_divmod := PySem.W.mg_none_of X G z_divmod
    n_range := PySem.W.mg_none_of X G z_range
    n_list := PySem.W.mg_none_of X G z_list
    n_repr := PySem.W.mg_none_of X G z_repr
    n_max := PySem.W.mg_none_of X G z_max
    n_min := PySem.W.mg_none_of X G z_min
    n_str := PySem.W.mg_none_of X G z_str
    n_bool := PySem.W.mg_none_of X G z_bool }, rfl⟩
end MH
namespace MH
open PySem PySem.Spec PyProof.Rows L2
/-! ### frames -/
theorem _root_.L2.Same.sqt {K : PySem.W.Frag} {H H' : Hp} {a : Addr} {xs : List V} (e : Same H H') (h : SqT K H a xs) : SqT K H' a xs := by
  rcases h with (h | ⟨o, h⟩) | h
  · exact .inl (.inl (e _ _ h))
  · exact .inl (.inr ⟨o, e _ _ h⟩)
  · exact .inr h
theorem _root_.L2.Same.new {H : Hp} {p : Addr} {o : HO} (h : H p = none) : Same H (upd H p o) := fun b x e => by
  rw [upd_ne (ne_of_none e h)]
  exact e
theorem _root_.L2.Same.new' {H H1 : Hp} {p : Addr} {o : HO} (s : Same H H1) (h : H1 p = none) : Same H (upd H1 p o) := s.trans (Same.new h)
/-- all as it was but p -/
def SameB (p : Addr) (H H' : Hp) : Prop := ∀ b o, b ≠ p → H b = some o → H' b = some o
theorem SameB.of {p : Addr} {H H' : Hp} (s : Same H H') : SameB p H H' := fun b o _ e => s b o e
theorem SameB.refl (p : Addr) (H : Hp) : SameB p H H := fun _ _ _ e => e
theorem SameB.trans {p : Addr} {H H1 H2 : Hp} (a : SameB p H H1) (b : SameB p H1 H2) : SameB p H H2 := fun c o n e => b c o n (a c o n e)
theorem SameB.put {p : Addr} {H H1 : Hp} {o : HO} (s : SameB p H H1) : SameB p H (upd H1 p o) := fun b x n e => by
  rw [upd_ne n]
  exact s b x n e
theorem SameB.new {p q : Addr} {H H1 : Hp} {o : HO} (s : SameB p H H1) (h : H1 q = none) : SameB p H (upd H1 q o) := s.trans (SameB.of (Same.new h))
/-- a tuple stands where only a list changed -/
theorem SameB.sqt {K : PySem.W.Frag} {p a : Addr} {H H' : Hp} {xs ys : List V} (s : SameB p H H') (hp : H p = some (.lst ys)) (h : SqT K H a xs) : SqT K H' a xs := by
  rcases h with (h | ⟨o, h⟩) | h
  · exact .inl (.inl (s _ _ (ne_of h hp (by intro q; cases q)) h))
  · exact .inl (.inr ⟨o, s _ _ (ne_of h hp (by intro q; cases q)) h⟩)
  · exact .inr h
theorem tup_of {K : PySem.W.Frag} {H : Hp} {a : Addr} {xs : List V} (h : H a = some (.tup xs)) : SqT K H a xs := .inl (.inl h)
theorem frz_of {K : PySem.W.Frag} {H : Hp} {a : Addr} {o : Obj} {xs : List V} (h : H a = some (.frz o (.tup xs))) : SqT K H a xs := .inl (.inr ⟨o, h⟩)
theorem lst_of {K : PySem.W.Frag} {H : Hp} {a : Addr} {xs : List V} (h : H a = some (.lst xs)) : SqL K H a xs := .inl (.inl h)
theorem le_line {n : Nat} (h : n ≤ 100000) : n ≤ sizeLine := Nat.le_trans h (by decide)
theorem lt_line {n : Nat} (h : n < 100000) : n < sizeLine := Nat.lt_of_lt_of_le h (by decide)

/-! ### the purse -/
def Pu (H : Hp) (p : Addr) : Prop := ∃ x y : Int, H p = some (.lst [.int x, .int y]) ∧ 0 ≤ x ∧ 0 ≤ y ∧ y < 2147483647
theorem Pu.sqt {K : PySem.W.Frag} {H H' : Hp} {p a : Addr} {xs : List V} (u : Pu H p) (s : SameB p H H') (h : SqT K H a xs) : SqT K H' a xs := by
  obtain ⟨x, y, hp, _⟩ := u
  exact s.sqt hp h
theorem Pu.same {H H' : Hp} {p : Addr} (u : Pu H p) (s : Same H H') : Pu H' p := by
  obtain ⟨x, y, hp, h⟩ := u
  exact ⟨x, y, s _ _ hp, h⟩
theorem Pu.put {H : Hp} {p q : Addr} {o u : HO} (a : Pu H p) (hq : H q = some u) (d : ∀ x y : Int, u ≠ .lst [.int x, .int y]) : Pu (upd H q o) p := by
  obtain ⟨x, y, hp, h⟩ := a
  have n : p ≠ q := fun e => by
    subst e
    rw [hp] at hq
    exact d x y (Option.some.inj hq).symm
  exact ⟨x, y, by rw [upd_ne n]; exact hp, h⟩
def spDraw : Sp := fun vs H Q _ => ∃ (p : Addr) (m : Int), vs = [.ref p, .int m] ∧ Pu H p ∧ 0 < m ∧ m < 1000000 ∧ ∀ d H', 0 ≤ d → d < m → SameB p H H' → Pu H' p → Q (.int d) H'

section
variable {P : Program} {w : World} {K : PySem.W.Frag} {mg : Str → Option Value} {base : Heap}
theorem ok_l_draw (T : Tx K mg) : FnOk P w K mg base CX0 1 T.a_l_draw T.fd_l_draw ["_law_purse_here", "_law_many"] spDraw := by
  refine T.F_l_draw.ok sc_l_draw (fun vs H Q E h => ?_) (fun cdv A outer s H vs Q E hr h => ?_)
  · obtain ⟨p, m, rfl, _⟩ := h
    rfl
  · obtain ⟨p, m, rfl, ⟨x, y, hp, hx, hy, hy2⟩, hm, hm2, k⟩ := h
    refine ⟨_, (pss_cons (ps_if (pt_cmpR op_gt (pe_ix ix_list (pv 0) pe_int (fun _ _ => rfl)) pe_int (nomark _))
        (pss_cons (ps_asg (pe_callB call_divmod (by rfl) T.n_divmod (by decide +kernel) (pa_cons (pe_ix ix_list (pv 0) pe_int (fun _ _ => rfl)) (pa_cons (pv 1) pa_nil))) (pg_tup rfl (pgs_cons (pg_sub (pv 0) pe_int set_list) (pgs_cons (pg_name (i := 2) sc_l_draw.nd rfl (Or.inl rfl)) pgs_nil))))
      (pss_one (ps_ret (pv 2))))
        pss_nil)
      (pss_cons (ps_asg (pe_op op_mod (pe_callTy call_int1 (by rfl) T.n_int (by decide +kernel) (pa_cons (pe_op op_add (pe_op op_mul (pe_ix ix_list (pv 0) pe_int (fun _ _ => rfl)) pe_int) pe_int) pa_nil)) pe_int) (pg_sub (pv 0) pe_int set_list))
      (pss_one (ps_ret (pe_op op_mod (pe_callTy call_int1 (by rfl) T.n_int (by decide +kernel) (pa_cons (pe_op op_fdiv (pe_ix ix_list (pv 0) pe_int (fun _ _ => rfl)) pe_int) pa_nil)) (pv 1)))))), ?_⟩
    refine ⟨_, rfl, p, _, 0, _, rfl, rfl, lst_of hp, rfl, _, _, rfl, rfl, _, rfl, ?_⟩
    refine ite2 (fun c => ?_) (fun c => ?_)
    · have c : 0 < x := of_decide_eq_true c
      refine ⟨_, rfl, p, _, 0, _, rfl, rfl, lst_of hp, rfl, _, rfl, _, _, rfl, ⟨hm, by omega⟩, fun t ht => ?_⟩
      have npt : p ≠ t := ne_of_none hp ht
      refine ⟨t, _, rfl, tup_of upd_same, rfl, _, _, rfl, _, rfl, p, _, 0, 0, rfl, rfl, (by rw [upd_ne npt]; exact hp), rfl, _, _, rfl, rfl, ?_⟩
      refine ⟨_, rfl, ?_⟩
      refine k _ _ (Int.emod_nonneg _ (by omega)) (Int.emod_lt_of_pos _ hm) ((SameB.refl p H).new ht).put ⟨x / m, y, ?_, Int.ediv_nonneg hx (by omega), hy, hy2⟩
      rw [upd_same]
      rfl
    · refine ⟨_, rfl, p, _, 1, _, rfl, rfl, lst_of hp, rfl, _, _, rfl, rfl, .inl ⟨by omega, by omega⟩, _, _, rfl, rfl, .inl ⟨_, rfl, _, _, rfl, rfl, (by show (0 : Int) < 2147483647; decide), ?_⟩⟩
      refine ⟨_, rfl, p, _, 1, 1, rfl, rfl, hp, rfl, ?_⟩
      refine ⟨_, rfl, p, _, 1, _, rfl, rfl, lst_of upd_same, rfl, _, _, rfl, rfl, ⟨by decide, by decide⟩, .inl ⟨_, rfl, _, rfl, _, _, rfl, rfl, hm, ?_⟩⟩
      refine k _ _ (Int.emod_nonneg _ (by omega)) (Int.emod_lt_of_pos _ hm) (SameB.refl p H).put ⟨x, _, upd_same, hx, Int.emod_nonneg _ (by decide), Int.emod_lt_of_pos _ (by decide)⟩
end
end MH
namespace MH
open PySem PySem.Spec PyProof.Rows L2
theorem cutV_mem {xs : List V} {lo hi : Option Int} {x : V} (h : x ∈ cutV xs lo hi) : x ∈ xs := List.mem_of_mem_drop (List.mem_of_mem_take h)
def spPurse (K : PySem.W.Frag) : Sp := fun vs H Q _ => ∃ (a : Addr) (ns : List Int) (i : Nat), vs = [.ref a, .int i] ∧ SqL K H a (ns.map V.int) ∧ ns.length ≤ 63 ∧ i < 1000 ∧ ∀ H' p, Same H H' → H p = none → Pu H' p → Q (.ref p) H'
section
variable {P : Program} {w : World} {K : PySem.W.Frag} {mg : Str → Option Value} {base : Heap}
theorem ok_l_purse (T : Tx K mg) : FnOk P w K mg base CX0 1 T.a_l_purse T.fd_l_purse ["_law_script", "_law_spot"] (spPurse K) := by
  refine T.F_l_purse.ok sc_l_purse (fun vs H Q E h => ?_) (fun cdv A outer s H vs Q E hr h => ?_)
  · obtain ⟨a, ns, i, rfl, _⟩ := h
    rfl
  · obtain ⟨a, ns, i, rfl, hS, hlen, hi, k⟩ := h
    refine ⟨_, (pss_cons (ps_set (i := 2) sc_l_purse.nd rfl (Or.inl rfl) (pe_ifExp (pt_cmpR op_lt (pv 1) (pe_callB call_len_seq (by rfl) T.n_len (by decide +kernel) (pa_cons (pv 0) pa_nil)) (nomark _)) (pe_ix ix_list (pv 0) (pv 1) (fun _ _ => rfl)) (pe_op op_mul pe_int (pe_op op_add (pv 1) pe_int))))
      (pss_cons (ps_set (i := 3) sc_l_purse.nd rfl (Or.inl rfl) (pe_op op_add pe_int (pv 1)))
      (pss_cons (ps_for PassesOwn.never rfl (pi_list (pe_op op_cat (pe_slice sl_list (pv 0) po_none (po_some pe_int)) (pe_lst (pa_cons (pv 2) pa_nil)))) (pg_name (i := 4) sc_l_purse.nd rfl (Or.inl rfl))
        (pss_one (ps_set (i := 3) sc_l_purse.nd rfl (Or.inl rfl) (pe_op op_mod (pe_callTy call_int1 (by rfl) T.n_int (by decide +kernel) (pa_cons (pe_op op_add (pe_op op_add (pe_op op_mul (pv 3) pe_int) (pe_op op_mod (pe_callTy call_int1 (by rfl) T.n_int (by decide +kernel) (pa_cons (pv 4) pa_nil)) pe_int)) pe_int) pa_nil)) pe_int))))
      (pss_one (ps_ret (pe_lst (pa_cons (pe_ifExp (pt_cmpR op_ge (pe_callB call_abs (by rfl) T.n_abs (by decide +kernel) (pa_cons (pv 2) pa_nil)) (pe_op op_pow pe_int pe_int) (nomark _)) (pe_callB call_abs (by rfl) T.n_abs (by decide +kernel) (pa_cons (pv 2) pa_nil)) pe_int) (pa_cons (pv 3) pa_nil)))))))), ?_⟩
    refine ⟨_, rfl, _, rfl, a, _, rfl, .inl hS, _, _, rfl, rfl, _, rfl, ?_⟩
    refine ite2 (fun c => ?a1) (fun c => ?a2)
    case' a1 =>
      have c : (i : Int) < ((ns.map V.int).length : Nat) := of_decide_eq_true c
      have c2 : i < ns.length := by
        rw [List.length_map] at c
        omega
      have g : (ns.map V.int)[i]? = some (.int ns[i]) := by
        rw [List.getElem?_map, List.getElem?_eq_getElem c2]
        rfl
      refine ⟨_, rfl, _, rfl, a, _, _, _, rfl, rfl, hS, atI_nat g, ?_⟩
      generalize ns[i] = z
    case' a2 =>
      refine ⟨_, rfl, _, _, rfl, rfl, _, _, rfl, rfl, .inl ⟨by decide, by decide⟩, ?_⟩
      show gName 2 (V.int ((7919 : Int) * ((i : Int) + 5))) _ _ _
      generalize (7919 : Int) * ((i : Int) + 5) = z
    all_goals
      refine ⟨_, rfl, _, _, rfl, rfl, ?_⟩
      refine ⟨_, rfl, 5, rfl, a, _, rfl, hS, fun p np => ?_⟩
      refine ⟨_, rfl, (by show 1 ≤ sizeLine; decide), fun q nq => ?_⟩
      have npq : p ≠ q := fun e => by
        rw [e, upd_same] at nq
        cases nq
      refine ⟨p, q, _, _, rfl, rfl, (by rw [upd_ne npq]; exact upd_same), upd_same, le_line ?_, fun r nr => ?_⟩
      · have q1 := cutV_length (ns.map V.int) none (some 5)
        rw [List.length_map] at q1
        show (cutV (ns.map V.int) none (some 5)).length + 1 ≤ 100000
        omega
      have s1 := ((Same.new np).new' nq).new' nr (o := .lst (cutV (ns.map V.int) none (some 5) ++ [V.int z]))
      refine ⟨r, rfl, ⟨_, lst_of upd_same⟩, for_list (K := K) (a := r) (xs := cutV (ns.map V.int) none (some 5) ++ [V.int z]) (fun j σ H' => ∃ (y : Int) (v : Option V), σ = [some (.ref a), some (.int i), some (.int z), some (.int y), v] ∧ 0 ≤ y ∧ y < 2147483647 ∧ Same H H' ∧ H' r = some (.lst (cutV (ns.map V.int) none (some 5) ++ [V.int z])))
        ⟨(211 : Int) + i, none, rfl, by omega, by omega, s1, upd_same⟩ (fun j σ H' _ ⟨_, _, _, _, _, _, hL⟩ => lst_of hL) ?_ ?_⟩
      · rintro j x σ H' hx ⟨y, v, rfl, h0, h1, s2, hL⟩
        obtain ⟨n, rfl⟩ : ∃ n, x = V.int n := by
          rcases List.mem_append.mp (List.mem_of_getElem? hx) with m | m
          · obtain ⟨n, _, e⟩ := List.mem_map.mp (cutV_mem m)
            exact ⟨n, e.symm⟩
          · exact ⟨z, List.mem_singleton.mp m⟩
        refine ⟨_, rfl, _, _, rfl, rfl, .inl ⟨by omega, by omega⟩, _, rfl, .inl ⟨_, rfl, _, _, rfl, rfl, (by show (0 : Int) < 2147483647; decide), _, _, rfl, rfl, _, _, rfl, rfl, .inl ⟨_, rfl, _, _, rfl, rfl, (by show (0 : Int) < 2147483647; decide), ?_⟩⟩⟩
        exact ⟨_, _, rfl, Int.emod_nonneg _ (by decide), Int.emod_lt_of_pos _ (by decide), s2, hL⟩
      · rintro σ H' ⟨y, v, rfl, h0, h1, s2, hL⟩
        refine ⟨_, rfl, _, rfl, _, _, rfl, rfl, ⟨by decide, by decide, by decide⟩, _, _, rfl, rfl, _, rfl, ?_⟩
        refine ite2 (fun c => ?_) (fun c => ?_)
        · refine ⟨_, rfl, _, rfl, _, rfl, (by show 2 ≤ sizeLine; decide), fun t nt => ?_⟩
          refine k _ _ (s2.new' nt) (s2.free nt) ⟨_, _, upd_same, ?_, h0, h1⟩
          split <;> omega
        · refine ⟨_, rfl, (by show 2 ≤ sizeLine; decide), fun t nt => ?_⟩
          exact k _ _ (s2.new' nt) (s2.free nt) ⟨_, _, upd_same, by omega, h0, h1⟩
end
end MH
namespace MH
open PySem PySem.Spec PyProof.Rows L2
theorem seqIndex_in {d : Int} {n : Nat} (h0 : 0 ≤ d) (h1 : d < n) : seqIndex? d n = some d.toNat := by
  unfold seqIndex?
  simp only
  first
    | (rw [if_pos h0]; rw [if_pos (by omega)])
    | (split <;> simp_all <;> omega)
theorem perm_pop : ∀ {l : List Str} {k : Nat} {z : Str}, l[k]? = some z → (z :: l.eraseIdx k).Perm l
  | [], k, z, h => by simp at h
  | a :: l, 0, z, h => by
    obtain rfl : a = z := Option.some.inj h
    exact List.Perm.refl _
  | a :: l, k + 1, z, h => by
    have ih := perm_pop (l := l) (k := k) (z := z) h
    exact (List.Perm.swap a z _).trans (ih.cons a)
theorem map_erase {α β : Type} (f : α → β) : ∀ (l : List α) (k : Nat), (l.eraseIdx k).map f = (l.map f).eraseIdx k
  | [], k => rfl
  | a :: l, 0 => rfl
  | a :: l, k + 1 => congrArg (f a :: ·) (map_erase f l k)
def spThings (K : PySem.W.Frag) : Sp := fun vs H Q _ => ∃ (p : Addr) (n : Int), vs = [.ref p, .int n] ∧ Pu H p ∧ 0 ≤ n ∧ n ≤ 13 ∧
  ∀ (ss : List Str) (a : Addr) (H' : Hp), ss.Nodup → sortedS ss = true → (∀ z ∈ ss, z ∈ pool) → ss.length = n.toNat → SameB p H H' → Pu H' p → SqT K H' a (ss.map V.str) → Q (.ref a) H'
section
variable {P : Program} {w : World} {K : PySem.W.Frag} {mg : Str → Option Value} {base : Heap}
theorem ok_l_things (T : Tx K mg) : FnOk P w K mg base CX0 2 T.a_l_things T.fd_l_things ["_law_purse_here", "_law_many"] (spThings K) := by
  refine T.F_l_things.ok sc_l_things (fun vs H Q E h => ?_) (fun cdv A outer s H vs Q E hr h => ?_)
  · obtain ⟨p, n, rfl, _⟩ := h
    rfl
  · obtain ⟨p, n, rfl, pu, n0, n13, k⟩ := h
    refine ⟨_, (pss_cons (ps_set (i := 2) sc_l_things.nd rfl (Or.inl rfl) (pe_lst (pa_cons pe_str (pa_cons pe_str (pa_cons pe_str (pa_cons pe_str (pa_cons pe_str (pa_cons pe_str (pa_cons pe_str (pa_cons pe_str (pa_cons pe_str (pa_cons pe_str (pa_cons pe_str (pa_cons pe_str (pa_cons pe_str pa_nil)))))))))))))))
      (pss_cons (ps_set (i := 3) sc_l_things.nd rfl (Or.inl rfl) (pe_lst pa_nil))
      (pss_cons (ps_for PassesOwn.never rfl (pi_range1 (by rfl) T.n_range (pa_cons (pv 1) pa_nil)) (pg_name (i := 4) sc_l_things.nd rfl (Or.inl rfl))
        (pss_one (ps_expr (pe_bm PySem.F.plainAttrs_list PySem.F.slot_list_append PySem.F.type_list_append mt_append (pv 3) (pa_cons (pe_bm PySem.F.plainAttrs_list PySem.F.slot_list_pop PySem.F.type_list_pop mt_popAt (pv 2) (pa_cons (pe_call (ok_l_draw T) (hr.mono (by decide)) rfl T.g_l_draw T.F_l_draw.kp T.b_l_draw .nil pass0 (pa_cons (pv 0) (pa_cons (pe_callB call_len_seq (by rfl) T.n_len (by decide +kernel) (pa_cons (pv 2) pa_nil)) pa_nil))) pa_nil)) pa_nil)))))
      (pss_one (ps_ret (pe_callTy call_tupF (by rfl) T.n_tuple (by decide +kernel) (pa_cons (pe_callB cr_sortedS (by rfl) T.n_sorted (by decide +kernel) (pa_cons (pv 3) pa_nil)) pa_nil))))))), ?_⟩
    obtain ⟨x0, y0, hp0, _⟩ := id pu
    refine ⟨(by show 13 ≤ sizeLine; decide), fun l nl => ?_⟩
    refine ⟨Nat.zero_le _, fun fo nfo => ?_⟩
    have npl : p ≠ l := ne_of_none hp0 nl
    have nlf : l ≠ fo := fun e => by
      rw [e, upd_same] at nfo
      cases nfo
    have nfo' : H fo = none := by
      rw [upd_ne nlf.symm] at nfo
      exact nfo
    have npf : p ≠ fo := ne_of_none hp0 nfo'
    have s0 : Same H (upd (upd H l (.lst (pool.map V.str))) fo (.lst [])) := (Same.new nl).new' nfo
    refine ⟨_, rfl, n, rfl, by omega, by omega, for_range (lo := 0) (n := n.toNat) (fun i σ H' => ∃ (rest found : List Str) (v : Option V), σ = [some (.ref p), some (.int n), some (.ref l), some (.ref fo), v] ∧
      H' l = some (.lst (rest.map V.str)) ∧ H' fo = some (.lst (found.map V.str)) ∧ (rest ++ found).Perm pool ∧ found.length = i ∧ SameB p H H' ∧ Pu H' p)
      ⟨pool, [], none, rfl, (by rw [upd_ne nlf]; exact upd_same), upd_same, List.Perm.refl _, rfl, .of s0, pu.same s0⟩ ?_ ?_⟩
    · rintro i σ H' hi ⟨rest, found, v, rfl, hl, hf, hpm, hlen, sb, pu1⟩
      have hsum : rest.length + found.length = 13 := by
        have := hpm.length_eq
        rw [List.length_append] at this
        exact this
      refine ⟨_, rfl, .inl ⟨rfl, _, lst_of hf⟩, _, rfl, .inl ⟨rfl, _, lst_of hl⟩, _, rfl, _, rfl, l, _, rfl, .inl (lst_of hl), p, _, rfl, pu1, ?_, ?_, fun d H2 d0 d1 sb2 pu2 => ?_⟩
      · rw [List.length_map]
        omega
      · rw [List.length_map]
        omega
      · rw [List.length_map] at d1
        have dk : d.toNat < rest.length := by omega
        have hl2 := sb2 _ _ npl.symm hl
        have hf2 := sb2 _ _ npf.symm hf
        have g : rest[d.toNat]? = some rest[d.toNat] := List.getElem?_eq_getElem dk
        refine ⟨l, _, d, d.toNat, V.str rest[d.toNat], rfl, rfl, hl2, by omega, by omega, seqIndex_in d0 (by rw [List.length_map]; exact d1), ?_, ?_⟩
        · rw [List.getElem?_map, g]
          rfl
        · refine ⟨fo, _, _, rfl, rfl, (by rw [upd_ne nlf.symm]; exact hf2), lt_line (by rw [List.length_map]; omega), ?_⟩
          refine ⟨rest.eraseIdx d.toNat, found ++ [rest[d.toNat]], _, rfl, ?_, ?_, ?_, ?_, ?_, ?_⟩
          · rw [upd_ne nlf, upd_same, map_erase]
          · rw [upd_same, List.map_append]
            rfl
          · refine List.Perm.trans ?_ hpm
            rw [← List.append_assoc]
            exact (List.perm_append_comm (l₂ := [rest[d.toNat]])).trans ((perm_pop g).append_right found)
          · rw [List.length_append, hlen]
            rfl
          · intro b o nb e
            have nbl : b ≠ l := ne_of_none e nl
            have nbf : b ≠ fo := ne_of_none e nfo'
            rw [upd_ne nbf, upd_ne nbl]
            exact sb2 _ _ nb (sb _ _ nb e)
          · obtain ⟨x2, y2, hp2, hh⟩ := pu2
            exact ⟨x2, y2, by rw [upd_ne npf, upd_ne npl]; exact hp2, hh⟩
    · rintro σ H' ⟨rest, found, v, rfl, hl, hf, hpm, hlen, sb, pu1⟩
      have nd : found.Nodup := by
        have : (rest ++ found).Nodup := hpm.nodup_iff.mpr pool_nd
        exact (List.nodup_append.mp this).2.1
      refine ⟨_, rfl, fo, found, rfl, lst_of hf, by omega, fun ys q pm so nq => ⟨q, _, rfl, .inl ⟨lst_of upd_same, fun t ot nt od => ?_⟩⟩⟩
      refine k ys t _ (pm.nodup_iff.mpr nd) so (fun z hz => hpm.subset (List.mem_append_right _ (pm.subset hz))) (by rw [pm.length_eq, hlen]) ((sb.new nq).new nt) ((pu1.same (Same.new nq)).same (Same.new nt)) (frz_of upd_same)
end
end MH
namespace MH
open PySem PySem.Spec PyProof.Rows L2
def spOrder (K : PySem.W.Frag) : Sp := fun vs H Q _ => ∃ (p t : Addr) (ss : List Str), vs = [.ref p, .ref t] ∧ Pu H p ∧ SqT K H t (ss.map V.str) ∧ ss.length ≤ 1000 ∧
  ∀ (row : List Str) (a : Addr) (H' : Hp), row.Perm ss → SameB p H H' → Pu H' p → TupO H' a (row.map V.str) → Q (.ref a) H'
section
variable {P : Program} {w : World} {K : PySem.W.Frag} {mg : Str → Option Value} {base : Heap}
theorem ok_l_order (T : Tx K mg) : FnOk P w K mg base CX0 2 T.a_l_order T.fd_l_order ["_law_purse_here", "_law_things_here"] (spOrder K) := by
  refine T.F_l_order.ok sc_l_order (fun vs H Q E h => ?_) (fun cdv A outer s H vs Q E hr h => ?_)
  · obtain ⟨p, n, ss, rfl, _⟩ := h
    rfl
  · obtain ⟨p, t, ss, rfl, pu, hT, hz, k⟩ := h
    refine ⟨_, (pss_cons (ps_par (i := 2) (j := 3) rfl sc_l_order.nd rfl rfl (by decide) rfl rfl (pa_cons (pe_callTy call_list_of (by rfl) T.n_list (by decide +kernel) (pa_cons (pv 1) pa_nil)) (pa_cons (pe_lst pa_nil) pa_nil)) (by rfl))
      (pss_cons (ps_for PassesOwn.never rfl (pi_range1 (by rfl) T.n_range (pa_cons (pe_callB call_len_seq (by rfl) T.n_len (by decide +kernel) (pa_cons (pv 1) pa_nil)) pa_nil)) (pg_name (i := 4) sc_l_order.nd rfl (Or.inl rfl))
        (pss_one (ps_expr (pe_bm PySem.F.plainAttrs_list PySem.F.slot_list_append PySem.F.type_list_append mt_append (pv 3) (pa_cons (pe_bm PySem.F.plainAttrs_list PySem.F.slot_list_pop PySem.F.type_list_pop mt_popAt (pv 2) (pa_cons (pe_call (ok_l_draw T) (hr.mono (by decide)) rfl T.g_l_draw T.F_l_draw.kp T.b_l_draw .nil pass0 (pa_cons (pv 0) (pa_cons (pe_callB call_len_seq (by rfl) T.n_len (by decide +kernel) (pa_cons (pv 2) pa_nil)) pa_nil))) pa_nil)) pa_nil)))))
      (pss_one (ps_ret (pe_callTy call_tupF (by rfl) T.n_tuple (by decide +kernel) (pa_cons (pv 3) pa_nil)))))), ?_⟩
    obtain ⟨x0, y0, hp0, _⟩ := id pu
    refine ⟨_, rfl, t, _, rfl, .inr hT, fun l nl => ?_⟩
    refine ⟨Nat.zero_le _, fun fo nfo => ⟨_, _, rfl, ?_⟩⟩
    have npl : p ≠ l := ne_of_none hp0 nl
    have nlf : l ≠ fo := fun e => by
      rw [e, upd_same] at nfo
      cases nfo
    have nfo' : H fo = none := by
      rw [upd_ne nlf.symm] at nfo
      exact nfo
    have npf : p ≠ fo := ne_of_none hp0 nfo'
    have s0 : Same H (upd (upd H l (.lst (ss.map V.str))) fo (.lst [])) := (Same.new nl).new' nfo
    refine ⟨_, rfl, t, _, rfl, .inr (s0.sqt hT), _, rfl, by omega, by rw [List.length_map]; omega, for_range (lo := 0) (n := ((((ss.map V.str).length : Nat) : Int)).toNat) (fun i σ H' => ∃ (rest found : List Str) (v : Option V), σ = [some (.ref p), some (.ref t), some (.ref l), some (.ref fo), v] ∧
      H' l = some (.lst (rest.map V.str)) ∧ H' fo = some (.lst (found.map V.str)) ∧ (rest ++ found).Perm ss ∧ found.length = i ∧ SameB p H H' ∧ Pu H' p)
      ⟨ss, [], none, rfl, (by rw [upd_ne nlf]; exact upd_same), upd_same, (by rw [List.append_nil]), rfl, .of s0, pu.same s0⟩ ?_ ?_⟩
    · rintro i σ H' hi ⟨rest, found, v, rfl, hl, hf, hpm, hlen, sb, pu1⟩
      rw [List.length_map] at hi
      have hsum : rest.length + found.length = ss.length := by
        have := hpm.length_eq
        rw [List.length_append] at this
        exact this
      refine ⟨_, rfl, .inl ⟨rfl, _, lst_of hf⟩, _, rfl, .inl ⟨rfl, _, lst_of hl⟩, _, rfl, _, rfl, l, _, rfl, .inl (lst_of hl), p, _, rfl, pu1, ?_, ?_, fun d H2 d0 d1 sb2 pu2 => ?_⟩
      · rw [List.length_map]
        omega
      · rw [List.length_map]
        omega
      · rw [List.length_map] at d1
        have dk : d.toNat < rest.length := by omega
        have hl2 := sb2 _ _ npl.symm hl
        have hf2 := sb2 _ _ npf.symm hf
        have g : rest[d.toNat]? = some rest[d.toNat] := List.getElem?_eq_getElem dk
        refine ⟨l, _, d, d.toNat, V.str rest[d.toNat], rfl, rfl, hl2, by omega, by omega, seqIndex_in d0 (by rw [List.length_map]; exact d1), ?_, ?_⟩
        · rw [List.getElem?_map, g]
          rfl
        · refine ⟨fo, _, _, rfl, rfl, (by rw [upd_ne nlf.symm]; exact hf2), lt_line (by rw [List.length_map]; omega), ?_⟩
          refine ⟨rest.eraseIdx d.toNat, found ++ [rest[d.toNat]], _, rfl, ?_, ?_, ?_, ?_, ?_, ?_⟩
          · rw [upd_ne nlf, upd_same, map_erase]
          · rw [upd_same, List.map_append]
            rfl
          · refine List.Perm.trans ?_ hpm
            rw [← List.append_assoc]
            exact (List.perm_append_comm (l₂ := [rest[d.toNat]])).trans ((perm_pop g).append_right found)
          · rw [List.length_append, hlen]
            rfl
          · intro b o nb e
            have nbl : b ≠ l := ne_of_none e nl
            have nbf : b ≠ fo := ne_of_none e nfo'
            rw [upd_ne nbf, upd_ne nbl]
            exact sb2 _ _ nb (sb _ _ nb e)
          · obtain ⟨x2, y2, hp2, hh⟩ := pu2
            exact ⟨x2, y2, by rw [upd_ne npf, upd_ne npl]; exact hp2, hh⟩
    · rintro σ H' ⟨rest, found, v, rfl, hl, hf, hpm, hlen, sb, pu1⟩
      have e0 : rest = [] := by
        have := hpm.length_eq
        rw [List.length_append, hlen] at this
        simp at this
        exact this
      subst e0
      refine ⟨_, rfl, fo, _, rfl, .inl ⟨lst_of hf, fun t' ot nt od => ?_⟩⟩
      exact k found t' _ hpm (sb.new nt) (pu1.same (Same.new nt)) ⟨ot, upd_same, od⟩
end
end MH
namespace MH
open PySem PySem.Spec PyProof.Rows L2
theorem _root_.L2.SqT.ty {K : PySem.W.Frag} {H : Hp} {a : Addr} {xs : List V} (h : SqT K H a xs) : TyX K H (.ref a) (.type "tuple") := by
  rcases h with (h | ⟨o, h⟩) | ⟨o, its, n, h, c, _⟩
  · exact .base (.tup h)
  · exact .fTuple h
  · exact .kTuple h c
theorem ifT {c : Bool} {A B : Prop} (h : c = true) (a : A) : if c = true then A else B := by
  rw [if_pos h]
  exact a
theorem ifF {c : Bool} {A B : Prop} (h : c = false) (b : B) : if c = true then A else B := by
  rw [h, if_neg Bool.false_ne_true]
  exact b
theorem inV_strs (z : Str) : ∀ ss : List Str, inV (.str z) (ss.map V.str) = decide (z ∈ ss)
  | [] => rfl
  | y :: r => by
    have ih := inV_strs z r
    show (y == z || inV (.str z) (r.map V.str)) = decide (z ∈ y :: r)
    rw [ih]
    by_cases e : y = z
    · subst e
      simp
    · have e2 : ¬ z = y := fun q => e q.symm
      simp [e, e2]
theorem flat_strs (ss : List Str) : (ss.map V.str).all flatV = true := by
  rw [List.all_eq_true]
  intro v hv
  obtain ⟨z, _, rfl⟩ := List.mem_map.mp hv
  rfl
theorem cut_upto (xs : List V) (i : Nat) : cutV xs none (some (i : Int)) = xs.take i := by
  unfold cutV
  rw [HT.sIx_none, HT.sIx_nat, Nat.sub_zero, List.drop_zero]
  rcases Nat.le_total i xs.length with h | h
  · rw [Nat.min_eq_left h]
  · rw [Nat.min_eq_right h, List.take_of_length_le (Nat.le_refl _), List.take_of_length_le h]
theorem cut_from (xs : List V) (i : Nat) : cutV xs (some (i : Int)) none = xs.drop i := by
  unfold cutV
  rw [HT.sIx_none, HT.sIx_nat]
  rcases Nat.le_total i xs.length with h | h
  · rw [Nat.min_eq_left h, List.take_of_length_le]
    rw [List.length_drop]
    exact Nat.le_refl _
  · rw [Nat.min_eq_right h, Nat.sub_self, List.drop_of_length_le h]
    rfl
/-- a slice of a tuple: itself or a new one -/
theorem slA_of {K : PySem.W.Frag} {H : Hp} {a : Addr} {xs : List V} {lo hi : Option Int} {Q : VK} (h : SqT K H a xs) (k : ∀ p H', Same H H' → SqT K H' p (cutV xs lo hi) → Q (.ref p) H') : rSlA K (.ref a) lo hi H Q := by
  refine ⟨a, xs, rfl, h, fun ⟨e1, e2⟩ => ?_, fun _ p np => k p _ (Same.new np) (tup_of upd_same)⟩
  have e : cutV xs lo hi = xs := by
    unfold cutV
    rw [e1, e2, Nat.sub_zero, List.drop_zero, List.take_of_length_le (Nat.le_refl _)]
  exact k a H (Same.refl H) (by rw [e]; exact h)
theorem walk_enumT {K : PySem.W.Frag} {a : Addr} {xs : List V} : Walk (IteT K a) xs.length (fun H => SqT K H a xs) (YPair (fun i => some (.int (i : Nat))) (fun i => xs[i]?)) where
  goes := fun i H hi h => ⟨xs, xs[i], h, by simp [hi]⟩
  stops := fun H h => ⟨xs, h, Nat.le_refl _⟩
  yields := fun i H x H' hi h ⟨T, y, e, n, e2, f⟩ => ⟨T, _, y, e, n, e2, rfl, f _ h⟩

def spIsName : Sp := fun vs H Q _ => ∃ z : Str, vs = [.str z] ∧ z.length ≤ 100000 ∧ ∀ H', Same H H' → Q (.bl (nameOk z)) H'
def spFilled (K : PySem.W.Frag) : Sp := fun vs H Q _ => ∃ (a : Addr) (xs : List V), vs = [.ref a] ∧ SqT K H a xs ∧ Q (.bl (decide (0 < xs.length))) H
def spOneOf (K : PySem.W.Frag) : Sp := fun vs H Q _ => ∃ (z : Str) (t : Addr) (ss : List Str), vs = [.str z, .ref t] ∧ SqT K H t (ss.map V.str) ∧ Q (.bl (decide (z ∈ ss))) H
structure RowOk (row : List Str) : Prop where
  ne : row ≠ []
  le : row.length ≤ 10
  nd : row.Nodup
  ok : ∀ z ∈ row, nameOk z = true
def spFirstRow (K : PySem.W.Frag) : Sp := fun vs H Q _ => ∃ (t : Addr) (row : List Str), vs = [.ref t] ∧ SqT K H t (row.map V.str) ∧ RowOk row ∧ ∀ H', Same H H' → Q .non H'
def spFirstMenu (K : PySem.W.Frag) : Sp := fun vs H Q _ => ∃ (m t : Addr) (ms ss : List Str), vs = [.ref m, .ref t] ∧ SqT K H m (ms.map V.str) ∧ SqT K H t (ss.map V.str) ∧ ms.length ≤ 1000 ∧ (∀ z ∈ ms, z ∈ ss) ∧ ms.Pairwise ltS ∧ ∀ H', Same H H' → Q .non H'
section
variable {P : Program} {w : World} {K : PySem.W.Frag} {mg : Str → Option Value} {base : Heap}
theorem ok_is_filled_tuple (T : Tx K mg) : FnOk P w K mg base CX0 1 T.a_is_filled_tuple T.fd_is_filled_tuple ["value"] (spFilled K) := by
  refine T.F_is_filled_tuple.ok sc_is_filled_tuple (fun vs H Q E h => ?_) (fun cdv A outer s H vs Q E hr h => ?_)
  · obtain ⟨a, xs, rfl, _⟩ := h
    rfl
  · obtain ⟨a, xs, rfl, hT, k⟩ := h
    refine ⟨_, (pss_one (ps_ret (pe_and (pe_callB call_isi (by rfl) T.n_isinstance (by decide +kernel) (pa_cons (pv 0) (pa_cons (pe_bltn (v := .ty "tuple") (by rfl) T.n_tuple (by decide +kernel) rfl) pa_nil))) (pe_one (pe_cmpR op_gt (pe_callB call_len_seq (by rfl) T.n_len (by decide +kernel) (pa_cons (pv 0) pa_nil)) pe_int (nomark _)))))), ?_⟩
    refine ⟨_, rfl, _, _, _, _, true, rfl, .ty _, hT.ty, kit_ty (by decide +kernel), true, rfl, iteT ?_⟩
    refine ⟨_, rfl, a, _, rfl, .inr hT, _, _, rfl, rfl, ?_⟩
    have e : decide ((0 : Int) < (xs.length : Nat)) = decide (0 < xs.length) := by simp
    show Q (.bl (decide ((0 : Int) < (xs.length : Nat)))) H
    rw [e]
    exact k
theorem ok_is_one_of (T : Tx K mg) : FnOk P w K mg base CX0 1 T.a_is_one_of T.fd_is_one_of ["value", "things"] (spOneOf K) := by
  refine T.F_is_one_of.ok sc_is_one_of (fun vs H Q E h => ?_) (fun cdv A outer s H vs Q E hr h => ?_)
  · obtain ⟨z, t, ss, rfl, _⟩ := h
    rfl
  · obtain ⟨z, t, ss, rfl, hT, k⟩ := h
    refine ⟨_, (pss_one (ps_ret (pe_and (pe_callB call_isi (by rfl) T.n_isinstance (by decide +kernel) (pa_cons (pv 0) (pa_cons (pe_bltn (v := .ty "str") (by rfl) T.n_str (by decide +kernel) rfl) pa_nil))) (pe_one (pe_cmpR op_in_seq (pv 0) (pv 1) (by rfl)))))), ?_⟩
    refine ⟨_, rfl, _, _, _, _, true, rfl, .ty _, .base (.str z), kit_ty (by decide +kernel), true, rfl, iteT ?_⟩
    refine ⟨_, rfl, _, rfl, t, _, rfl, .inr hT, rfl, flat_strs ss, ?_⟩
    show Q (.bl (inV (.str z) (ss.map V.str))) H
    rw [inV_strs]
    exact k
theorem ok_is_name (T : Tx K mg) : FnOk P w K mg base CX0 1 T.a_is_name T.fd_is_name ["value"] spIsName := by
  refine T.F_is_name.ok sc_is_name (fun vs H Q E h => ?_) (fun cdv A outer s H vs Q E hr h => ?_)
  · obtain ⟨z, rfl, _⟩ := h
    rfl
  · obtain ⟨z, rfl, hz, k⟩ := h
    refine ⟨_, (pss_cons (ps_if (PW.pt (pw_or (pt_not (pt_val (pe_callB call_isi (by rfl) T.n_isinstance (by decide +kernel) (pa_cons (pv 0) (pa_cons (pe_bltn (v := .ty "str") (by rfl) T.n_str (by decide +kernel) rfl) pa_nil))))) (pw_or1 (pt_not (pt_chain op_le op_le pe_int (pe_callB call_len_str (by rfl) T.n_len (by decide +kernel) (pa_cons (pv 0) pa_nil)) (pe_glob (v := .int 8) rfl T.g_LONGEST_NAME.choose_spec ⟨_, rfl⟩))))))
        (pss_one (ps_ret pe_bl))
        pss_nil)
      (pss_one (ps_ret (pe_and (pe_cmpR op_in_sign (pe_ix ix_str (pv 0) pe_int (fun _ _ => rfl)) (pe_glob (v := .str "abcdefghijklmnopqrstuvwxyz") rfl T.g_LETTERS.choose_spec ⟨_, rfl⟩) (by rfl)) (pe_one (pe_callB (cr_all rfl) (by rfl) T.n_all (by decide +kernel) (pa_cons (pe_lc (own := [("sign", 1)]) (g := gName 1) (tt := tYes) rfl sc_is_name.nd (pi_str (pv 0)) (blkOk_by (own := [("sign", 1)]) (N := names_is_name) (sc := defScope st_is_name) (by decide +kernel)) (fun _ _ _ _ _ => pg_name (i := 1) sc_is_name.nd rfl (Or.inl rfl)) (fun _ _ _ _ _ => pts_nil) (fun _ _ _ _ _ => (pe_or (pe_cmpR op_in_sign (pv 1) (pe_glob (v := .str "abcdefghijklmnopqrstuvwxyz") rfl T.g_LETTERS.choose_spec ⟨_, rfl⟩) (by rfl)) (pe_one (pe_cmpR op_in_sign (pv 1) (pe_glob (v := .str "0123456789") rfl T.g_DIGITS.choose_spec ⟨_, rfl⟩) (by rfl)))))) pa_nil))))))), ?_⟩
    refine ⟨_, rfl, _, _, _, _, true, rfl, .ty _, .base (.str z), kit_ty (by decide +kernel), true, rfl, iteF ?_⟩
    refine ⟨_, rfl, z, rfl, le_line hz, _, _, rfl, rfl, _, rfl, ?_⟩
    by_cases h1 : 1 ≤ z.length
    · refine ifT (decide_eq_true (show (1 : Int) ≤ (z.length : Nat) by omega)) ?_
      refine ⟨_, _, rfl, rfl, _, rfl, ?_⟩
      by_cases h2 : z.length ≤ 8
      · refine ifF (by simp; omega) ?_
        have hne : z.cps.toList ≠ [] := fun e => by
          have : z.cps.size = 0 := by rw [← Array.length_toList, e]; rfl
          have e2 : z.length = z.cps.size := rfl
          omega
        obtain ⟨c0, rest, ec⟩ : ∃ c r, z.cps.toList = c :: r := List.exists_cons_of_ne_nil hne
        have en : nameOk z = (isL c0 && z.cps.toList.all fun c => isL c || isD c) := by
          unfold nameOk
          rw [decide_eq_true h1, decide_eq_true h2, ec]
          rfl
        refine ⟨_, rfl, z, 0, c0, rfl, rfl, le_line hz, (by rw [ec]; exact atI_nat (j := 0) rfl), c0, letters, rfl, rfl, isL c0, rfl, ?_⟩
        cases hc : isL c0 with
        | false =>
          refine iteF ?_
          have z0 := k H (Same.refl H)
          rw [en, hc] at z0
          exact z0
        | true =>
          refine iteT ?_
          refine ⟨_, rfl, z, rfl, fun D nD => lc_it (w := walk_str) (fun i H' => Same H H' ∧ H' D = some (.lst ((z.cps.toList.take i).map fun c => V.bl (isL c || isD c)))) ⟨Same.new nD, upd_same⟩ (fun _ _ _ _ => trivial) ?_ ?_⟩
          · rintro i x H1 H2 hi ⟨s1, e1⟩ ⟨rfl, c, hc, rfl⟩
            refine ⟨rfl, ?_⟩
            refine ⟨_, rfl, c, letters, rfl, rfl, isL c, rfl, ?_⟩
            have done : ∀ b : Bool, b = (isL c || isD c) → ∃ acc, H2 D = some (.lst acc) ∧ acc.length < sizeLine ∧ (Same H (upd H2 D (.lst (acc ++ [V.bl b]))) ∧ (upd H2 D (.lst (acc ++ [V.bl b]))) D = some (.lst ((z.cps.toList.take (i + 1)).map fun c => V.bl (isL c || isD c)))) := fun b hb => by
              refine ⟨_, e1, lt_line ?_, fun q o e => ?_, ?_⟩
              · have : z.cps.toList.length = z.length := rfl
                rw [List.length_map, List.length_take]
                omega
              · rw [upd_ne (ne_of_none e nD)]
                exact s1 _ _ e
              · rw [upd_same, hb]
                have g : z.cps.toList[i]? = some c := by
                  rw [Array.getElem?_toList]
                  exact hc
                rw [List.take_add_one, g, List.map_append]
                rfl
            cases hl : isL c with
            | true => exact iteT (done true (by rw [hl]; rfl))
            | false => exact iteF ⟨_, rfl, c, digits, rfl, rfl, done (isD c) (by rw [hl]; rfl)⟩
          · rintro H1 ⟨s1, e1⟩
            refine ⟨D, z.cps.toList.map fun c => isL c || isD c, rfl, lst_of ?_, ?_⟩
            · have : z.cps.toList.length ≤ z.cps.size := Nat.le_refl _
              rw [e1, List.take_of_length_le this, List.map_map]
              rfl
            · have z0 := k H1 s1
              rw [en, hc] at z0
              have e3 : (z.cps.toList.map fun c => isL c || isD c).all id = z.cps.toList.all fun c => isL c || isD c := by
                rw [List.all_map]
                rfl
              rw [e3]
              exact z0
      · refine ifT (by simp; omega) ?_
        have z0 := k H (Same.refl H)
        have en : nameOk z = false := by
          unfold nameOk
          rw [decide_eq_false h2]
          simp
        rw [en] at z0
        exact z0
    · refine ifF (decide_eq_false (show ¬ (1 : Int) ≤ (z.length : Nat) by omega)) ?_
      refine ⟨_, rfl, iteT ?_⟩
      have z0 := k H (Same.refl H)
      have en : nameOk z = false := by
        unfold nameOk
        rw [decide_eq_false h1]
        rfl
      rw [en] at z0
      exact z0
end
end MH
namespace MH
open PySem PySem.Spec PyProof.Rows L2
theorem str_at {ss : List Str} {i : Nat} {y : V} (h : (ss.map V.str)[i]? = some y) : ∃ z, ss[i]? = some z ∧ y = V.str z := by
  rw [List.getElem?_map] at h
  cases e : ss[i]? with
  | none =>
    rw [e] at h
    cases h
  | some z =>
    rw [e] at h
    exact ⟨z, rfl, (Option.some.inj h).symm⟩
section
variable {P : Program} {w : World} {K : PySem.W.Frag} {mg : Str → Option Value} {base : Heap}
theorem ok_first_wrong_in_row (T : Tx K mg) : FnOk P w K mg base CX0 2 T.a_first_wrong_in_row T.fd_first_wrong_in_row ["row"] (spFirstRow K) := by
  refine T.F_first_wrong_in_row.ok sc_first_wrong_in_row (fun vs H Q E h => ?_) (fun cdv A outer s H vs Q E hr h => ?_)
  · obtain ⟨t, row, rfl, _⟩ := h
    rfl
  · obtain ⟨t, row, rfl, hT, ro, k⟩ := h
    refine ⟨_, (pss_cons (ps_for PassesOwn.never rfl (pi_enumT (by rfl) T.n_enumerate (pa_cons (pv 0) pa_nil)) (pg_tup rfl (pgs_cons (pg_name (i := 1) sc_first_wrong_in_row.nd rfl (Or.inl rfl)) (pgs_cons (pg_name (i := 2) sc_first_wrong_in_row.nd rfl (Or.inl rfl)) pgs_nil)))
        (pss_one (ps_if (PW.pt (pw_or (pt_cmpR op_ge (pv 1) (pe_glob (v := .int 10) rfl T.g_MOST_THINGS.choose_spec ⟨_, rfl⟩) (nomark _)) (pw_or (pt_not (pt_val (pe_call (ok_is_name T) (hr.mono (by decide)) rfl T.g_is_name T.F_is_name.kp T.b_is_name .nil pass0 (pa_cons (pv 2) pa_nil)))) (pw_or1 (pt_cmpR op_in_seq (pv 2) (pe_slice sl_tupA (pv 0) po_none (po_some (pv 1))) (by rfl))))))
        (pss_one (ps_ret (pv 1)))
        pss_nil)))
      (pss_one (ps_ret pe_non))), ?_⟩
    refine ⟨_, rfl, t, _, rfl, hT, for_it walk_enumT (fun i σ H' => Same H H' ∧ ∃ v1 v2, σ = [some (.ref t), v1, v2]) ⟨Same.refl H, none, none, rfl⟩ (fun i σ H' _ h => h.1.sqt hT) ?_ ?_⟩
    · rintro i x σ H1 H2 hi ⟨s1, v1, v2, rfl⟩ ⟨p, y1, y2, rfl, np, rfl, e1, e2⟩
      cases e1
      rw [List.length_map] at hi
      obtain ⟨z, hz, rfl⟩ := str_at e2
      have s2 := s1.new' np (o := .tup [.int (i : Nat), .str z])
      refine ⟨p, _, rfl, tup_of upd_same, rfl, _, _, rfl, _, _, rfl, rfl, ?_⟩
      refine ⟨_, rfl, _, _, rfl, rfl, _, rfl, ifF (decide_eq_false (by have := ro.le; omega)) ?_⟩
      have hok := ro.ok z (List.mem_of_getElem? hz)
      refine ⟨_, rfl, z, rfl, Nat.le_trans (nameOk_len hok) (by decide), fun H2 s3 => ?_⟩
      rw [hok]
      refine ⟨true, rfl, iteF ?_⟩
      refine ⟨_, rfl, _, rfl, _, rfl, _, rfl, slA_of (s3.sqt (s2.sqt hT)) fun q H3 s4 hq => ?_⟩
      rw [cut_upto, ← List.map_take] at hq
      refine ⟨q, _, rfl, .inr hq, rfl, flat_strs _, ?_⟩
      refine ⟨_, rfl, ifF (show inV (.str z) ((row.take i).map V.str) = false from ?_) ⟨((s2.trans s3).trans s4), _, _, rfl⟩⟩
      rw [inV_strs]
      refine decide_eq_false fun m => ?_
      obtain ⟨j, hj, e⟩ := List.mem_iff_getElem.mp m
      rw [List.length_take] at hj
      rw [List.getElem_take] at e
      obtain ⟨hi', e3⟩ := List.getElem?_eq_some_iff.mp hz
      have := (List.getElem_inj ro.nd).mp (e.trans e3.symm)
      omega
    · rintro σ H1 ⟨s1, v1, v2, rfl⟩
      exact k H1 s1
theorem ok_first_wrong_on_menu (T : Tx K mg) : FnOk P w K mg base CX0 2 T.a_first_wrong_on_menu T.fd_first_wrong_on_menu ["menu", "things"] (spFirstMenu K) := by
  refine T.F_first_wrong_on_menu.ok sc_first_wrong_on_menu (fun vs H Q E h => ?_) (fun cdv A outer s H vs Q E hr h => ?_)
  · obtain ⟨m, t, ms, ss, rfl, _⟩ := h
    rfl
  · obtain ⟨m, t, ms, ss, rfl, hM, hT, hz, hin, hpw, k⟩ := h
    refine ⟨_, (pss_cons (ps_for PassesOwn.never rfl (pi_enumT (by rfl) T.n_enumerate (pa_cons (pv 0) pa_nil)) (pg_tup rfl (pgs_cons (pg_name (i := 2) sc_first_wrong_on_menu.nd rfl (Or.inl rfl)) (pgs_cons (pg_name (i := 3) sc_first_wrong_on_menu.nd rfl (Or.inl rfl)) pgs_nil)))
        (pss_cons (ps_if (pt_not (pt_val (pe_call (ok_is_one_of T) (hr.mono (by decide)) rfl T.g_is_one_of T.F_is_one_of.kp T.b_is_one_of .nil pass0 (pa_cons (pv 3) (pa_cons (pv 1) pa_nil)))))
        (pss_one (ps_ret (pv 2)))
        pss_nil)
      (pss_one (ps_if (PW.pt (pw_and (pt_cmpR op_gt (pv 2) pe_int (nomark _)) (pw_and1 (pt_cmpR op_le_str (pv 3) (pe_ix ix_tup (pv 0) (pe_op op_sub (pv 2) pe_int) (fun _ _ => rfl)) (nomark _)))))
        (pss_one (ps_ret (pv 2)))
        pss_nil))))
      (pss_one (ps_ret pe_non))), ?_⟩
    refine ⟨_, rfl, m, _, rfl, hM, for_it walk_enumT (fun i σ H' => Same H H' ∧ ∃ v1 v2, σ = [some (.ref m), some (.ref t), v1, v2]) ⟨Same.refl H, none, none, rfl⟩ (fun i σ H' _ h => h.1.sqt hM) ?_ ?_⟩
    · rintro i x σ H1 H2 hi ⟨s1, v1, v2, rfl⟩ ⟨p, y1, y2, rfl, np, rfl, e1, e2⟩
      cases e1
      rw [List.length_map] at hi
      obtain ⟨z, hz, rfl⟩ := str_at e2
      have s2 := s1.new' np (o := .tup [.int (i : Nat), .str z])
      refine ⟨p, _, rfl, tup_of upd_same, rfl, _, _, rfl, _, _, rfl, rfl, ?_⟩
      refine ⟨_, rfl, _, rfl, z, t, ss, rfl, s2.sqt hT, _, rfl, ?_⟩
      have dz : decide (z ∈ ss) = true := decide_eq_true (hin z (List.mem_of_getElem? hz))
      refine ifF (by rw [dz]; rfl) ?_
      refine ⟨_, rfl, _, _, rfl, rfl, _, rfl, ?_⟩
      have fin : Same H (upd H1 p (.tup [.int (i : Nat), .str z])) ∧ ∃ v1 v2, ((L2.start names_first_wrong_on_menu [V.ref m, V.ref t]).set 2 v1).set 3 v2 = [some (.ref m), some (.ref t), some (.int (i : Nat)), some (.str z)] := ⟨s2, _, _, rfl⟩
      cases i with
      | zero => exact ifF (by decide) (iteF ⟨s2, _, _, rfl⟩)
      | succ i =>
        refine ifT (decide_eq_true (by omega)) ?_
        obtain ⟨y, hy⟩ : ∃ y, ms[i]? = some y := ⟨ms[i], List.getElem?_eq_getElem (by omega)⟩
        have g : (ms.map V.str)[i]? = some (.str y) := by
          rw [List.getElem?_map, hy]
          rfl
        have ix : (((i + 1 : Nat) : Int) - 1) = (i : Nat) := by omega
        refine ⟨_, rfl, _, rfl, _, rfl, _, _, rfl, rfl, m, _, _, _, rfl, rfl, s2.sqt hM, (by rw [ix]; exact atI_nat g), _, _, rfl, rfl, _, rfl, ifF ?_ ⟨s2, _, _, rfl⟩⟩
        have lt : ltS y z := by
          obtain ⟨h1, e1⟩ := List.getElem?_eq_some_iff.mp hy
          obtain ⟨h2, e2⟩ := List.getElem?_eq_some_iff.mp hz
          rw [← e1, ← e2]
          exact List.pairwise_iff_getElem.mp hpw i (i + 1) h1 h2 (by omega)
        rw [decide_eq_true (show y.cps.toList < z.cps.toList from lt)]
        rfl
    · rintro σ H1 ⟨s1, v1, v2, rfl⟩
      exact k H1 s1
def spCheckRow (K : PySem.W.Frag) : Sp := fun vs H Q _ => ∃ (t : Addr) (row : List Str), vs = [.ref t] ∧ SqT K H t (row.map V.str) ∧ RowOk row ∧ ∀ H', Same H H' → Q .non H'
def spCheckMenu (K : PySem.W.Frag) : Sp := fun vs H Q _ => ∃ (m t : Addr) (ms ss : List Str), vs = [.ref m, .ref t] ∧ SqT K H m (ms.map V.str) ∧ SqT K H t (ss.map V.str) ∧ ms ≠ [] ∧ ms.length ≤ 1000 ∧ (∀ z ∈ ms, z ∈ ss) ∧ ms.Pairwise ltS ∧ ∀ H', Same H H' → Q .non H'
def spCheckThing (K : PySem.W.Frag) : Sp := fun vs H Q _ => ∃ (z : Str) (t : Addr) (ss : List Str), vs = [.str z, .ref t] ∧ SqT K H t (ss.map V.str) ∧ z ∈ ss ∧ Q .non H
theorem pos_of_ne {ss : List Str} (h : ss ≠ []) : decide (0 < (ss.map V.str).length) = true := by
  cases ss with
  | nil => exact absurd rfl h
  | cons a r => rfl
theorem ok_check_row (T : Tx K mg) : FnOk P w K mg base CX0 3 T.a_check_row T.fd_check_row ["row"] (spCheckRow K) := by
  refine T.F_check_row.ok sc_check_row (fun vs H Q E h => ?_) (fun cdv A outer s H vs Q E hr h => ?_)
  · obtain ⟨t, row, rfl, _⟩ := h
    rfl
  · obtain ⟨t, row, rfl, hT, ro, k⟩ := h
    refine ⟨_, (pss_cons (ps_if (pt_not (pt_val (pe_call (ok_is_filled_tuple T) (hr.mono (by decide)) rfl T.g_is_filled_tuple T.F_is_filled_tuple.kp T.b_is_filled_tuple .nil pass0 (pa_cons (pv 0) pa_nil))))
        (pss_one ps_never)
        pss_nil)
      (pss_cons (ps_set (i := 1) sc_check_row.nd rfl (Or.inl rfl) (pe_call (ok_first_wrong_in_row T) (hr.mono (by decide)) rfl T.g_first_wrong_in_row T.F_first_wrong_in_row.kp T.b_first_wrong_in_row .nil pass0 (pa_cons (pv 0) pa_nil)))
      (pss_one (ps_if (pt_cmpR op_notN (pv 1) pe_non (nomark _))
        (pss_one ps_never)
        pss_nil)))), ?_⟩
    refine ⟨_, rfl, t, _, rfl, hT, _, rfl, ifF (by rw [pos_of_ne ro.ne]; rfl) ?_⟩
    refine ⟨_, rfl, t, row, rfl, hT, ro, fun H1 s1 => ?_⟩
    exact ⟨_, rfl, rfl, _, rfl, iteF (k H1 s1)⟩
theorem ok_check_menu (T : Tx K mg) : FnOk P w K mg base CX0 3 T.a_check_menu T.fd_check_menu ["menu", "things"] (spCheckMenu K) := by
  refine T.F_check_menu.ok sc_check_menu (fun vs H Q E h => ?_) (fun cdv A outer s H vs Q E hr h => ?_)
  · obtain ⟨m, t, ms, ss, rfl, _⟩ := h
    rfl
  · obtain ⟨m, t, ms, ss, rfl, hM, hT, hne, hz, hin, hpw, k⟩ := h
    refine ⟨_, (pss_cons (ps_if (pt_not (pt_val (pe_call (ok_is_filled_tuple T) (hr.mono (by decide)) rfl T.g_is_filled_tuple T.F_is_filled_tuple.kp T.b_is_filled_tuple .nil pass0 (pa_cons (pv 0) pa_nil))))
        (pss_one ps_never)
        pss_nil)
      (pss_cons (ps_set (i := 2) sc_check_menu.nd rfl (Or.inl rfl) (pe_call (ok_first_wrong_on_menu T) (hr.mono (by decide)) rfl T.g_first_wrong_on_menu T.F_first_wrong_on_menu.kp T.b_first_wrong_on_menu .nil pass0 (pa_cons (pv 0) (pa_cons (pv 1) pa_nil))))
      (pss_one (ps_if (pt_cmpR op_notN (pv 2) pe_non (nomark _))
        (pss_one ps_never)
        pss_nil)))), ?_⟩
    refine ⟨_, rfl, m, _, rfl, hM, _, rfl, ifF (by rw [pos_of_ne hne]; rfl) ?_⟩
    refine ⟨_, rfl, _, rfl, m, t, ms, ss, rfl, hM, hT, hz, hin, hpw, fun H1 s1 => ?_⟩
    exact ⟨_, rfl, rfl, _, rfl, iteF (k H1 s1)⟩
theorem ok_check_thing (T : Tx K mg) : FnOk P w K mg base CX0 3 T.a_check_thing T.fd_check_thing ["thing", "things"] (spCheckThing K) := by
  refine T.F_check_thing.ok sc_check_thing (fun vs H Q E h => ?_) (fun cdv A outer s H vs Q E hr h => ?_)
  · obtain ⟨z, t, ss, rfl, _⟩ := h
    rfl
  · obtain ⟨z, t, ss, rfl, hT, hin, k⟩ := h
    refine ⟨_, (pss_one (ps_if (pt_not (pt_val (pe_call (ok_is_one_of T) (hr.mono (by decide)) rfl T.g_is_one_of T.F_is_one_of.kp T.b_is_one_of .nil pass0 (pa_cons (pv 0) (pa_cons (pv 1) pa_nil)))))
        (pss_one ps_never)
        pss_nil)), ?_⟩
    exact ⟨_, rfl, _, rfl, z, t, ss, rfl, hT, _, rfl, ifF (by rw [decide_eq_true hin]; rfl) k⟩
end
end MH
namespace MH
open PySem PySem.Spec PyProof.Rows L2
theorem sqt_but {K : PySem.W.Frag} {p a : Addr} {H H' : Hp} {C dx : Addr} {fs : List (Str × V)} {xs : List V} (s : SameB p H H') (hp : H p = some (.ins C dx fs)) (h : SqT K H a xs) : SqT K H' a xs := by
  rcases h with (h | ⟨o, h⟩) | h
  · exact .inl (.inl (s _ _ (ne_of h hp (by intro q; cases q)) h))
  · exact .inl (.inr ⟨o, s _ _ (ne_of h hp (by intro q; cases q)) h⟩)
  · exact .inr h
theorem TupO.but {p a : Addr} {H H' : Hp} {u : HO} {xs : List V} (h : TupO H a xs) (s : SameB p H H') (hp : H p = some u) (d : ∀ o, u ≠ .frz o (.tup xs)) : TupO H' a xs := by
  obtain ⟨o, h1, h2⟩ := h
  refine ⟨o, s _ _ (fun e => ?_) h1, h2⟩
  rw [e, hp] at h1
  exact d o (Option.some.inj h1)
theorem nrt : ¬ (("_row" : Str) = "_things") := by decide +kernel
def pf (t ts : Addr) : List (Str × V) := putF "_things" (.ref ts) (putF "_row" (.ref t) [])
theorem pf_row (t ts : Addr) : (pf t ts).lookup ("_row" : Str) = some (.ref t) := by
  unfold pf
  rw [lookup_putF, if_neg nrt, lookup_putF, if_pos rfl]
theorem pf_things (t ts : Addr) : (pf t ts).lookup ("_things" : Str) = some (.ref ts) := by
  unfold pf
  rw [lookup_putF, if_pos rfl]
theorem pf_no (t ts : Addr) {m : Str} (h1 : ¬ m = "_things") (h2 : ¬ m = "_row") : (pf t ts).lookup m = none := by
  unfold pf
  rw [lookup_putF, if_neg h1, lookup_putF, if_neg h2]
  rfl
/-- a ranking with this row stands at x -/
def RkAt (K : PySem.W.Frag) (C : Addr) (H : Hp) (x : Addr) (row : List Str) : Prop := ∃ (dx t ts : Addr) (th : List Str), H x = some (.ins C dx (pf t ts)) ∧ TupO H t (row.map V.str) ∧ SqT K H ts (th.map V.str) ∧ th.Perm row ∧ sortedS th = true ∧ RowOk row
theorem RkAt.same {K : PySem.W.Frag} {C x : Addr} {H H' : Hp} {row : List Str} (r : RkAt K C H x row) (s : Same H H') : RkAt K C H' x row := by
  obtain ⟨dx, t, ts, th, h1, h2, h3, h4⟩ := r
  exact ⟨dx, t, ts, th, s _ _ h1, h2.same s, s.sqt h3, h4⟩
theorem RkAt.sameB {K : PySem.W.Frag} {C x p : Addr} {H H' : Hp} {row : List Str} {zs : List V} (r : RkAt K C H x row) (s : SameB p H H') (hp : H p = some (.lst zs)) : RkAt K C H' x row := by
  obtain ⟨dx, t, ts, th, h1, h2, h3, h4⟩ := r
  exact ⟨dx, t, ts, th, s _ _ (ne_of h1 hp (by intro q; cases q)) h1, h2.but s hp (by intro o q; cases q), s.sqt hp h3, h4⟩
def spInit (K : PySem.W.Frag) (C : Addr) : Sp := fun vs H Q _ => ∃ (x dx t : Addr) (row : List Str), vs = [.ref x, .ref t] ∧ H x = some (.ins C dx []) ∧ TupO H t (row.map V.str) ∧ RowOk row ∧ ∀ H', SameB x H H' → RkAt K C H' x row → Q .non H'
def spRow (K : PySem.W.Frag) (C : Addr) : Sp := fun vs H Q _ => ∃ (x : Addr) (row : List Str), vs = [.ref x] ∧ RkAt K C H x row ∧ ∀ t, SqT K H t (row.map V.str) → Q (.ref t) H
def firstIn (row ms : List Str) : Str := (row.filter fun z => decide (z ∈ ms)).headD ""
def spBest (K : PySem.W.Frag) (C : Addr) : Sp := fun vs H Q _ => ∃ (x m : Addr) (row ms : List Str), vs = [.ref x, .ref m] ∧ RkAt K C H x row ∧ SqT K H m (ms.map V.str) ∧ ms ≠ [] ∧ (∀ z ∈ ms, z ∈ row) ∧ ms.Pairwise ltS ∧ ms.length ≤ 1000 ∧
  ∀ H', Same H H' → Q (.str (firstIn row ms)) H'
def spPlace (K : PySem.W.Frag) (C : Addr) : Sp := fun vs H Q _ => ∃ (x : Addr) (row : List Str) (z : Str) (j : Nat), vs = [.ref x, .str z] ∧ RkAt K C H x row ∧ row[j]? = some z ∧ ∀ H', Same H H' → Q (.int (j : Nat)) H'
def spIndexOf (K : PySem.W.Frag) : Sp := fun vs H Q _ => ∃ (z : Str) (t : Addr) (row : List Str) (j : Nat), vs = [.str z, .ref t] ∧ SqT K H t (row.map V.str) ∧ row[j]? = some z ∧ row.Nodup ∧ row.length ≤ 1000 ∧ ∀ H', Same H H' → Q (.int (j : Nat)) H'
def spBelow (K : PySem.W.Frag) (C : Addr) : Sp := fun vs H Q _ => ∃ (x : Addr) (row : List Str) (z : Str) (j : Nat), vs = [.ref x, .str z] ∧ RkAt K C H x row ∧ row[j]? = some z ∧
  ∀ (ys : List Str) (a : Addr) (H' : Hp), ys.Perm (row.drop (j + 1)) → sortedS ys = true → Same H H' → SqT K H' a (ys.map V.str) → Q (.ref a) H'
/-- a comprehension that keeps what is on a menu, and its first -/
theorem take_filter {ss : List Str} {f : Str → Bool} {i : Nat} {z : Str} (h : ss[i]? = some z) : (ss.take (i + 1)).filter f = (ss.take i).filter f ++ (if f z then [z] else []) := by
  rw [List.take_add_one, h, List.filter_append]
  cases hf : f z <;> simp [hf]
theorem filter_ne {row ms : List Str} (hne : ms ≠ []) (hin : ∀ z ∈ ms, z ∈ row) : (row.filter fun z => decide (z ∈ ms)) ≠ [] := by
  obtain ⟨a, r, rfl⟩ := List.exists_cons_of_ne_nil hne
  intro e
  have m : a ∈ row.filter fun z => decide (z ∈ a :: r) := List.mem_filter.mpr ⟨hin a List.mem_cons_self, by simp⟩
  rw [e] at m
  cases m
section
variable {P : Program} {w : World} {K : PySem.W.Frag} {mg : Str → Option Value} {base : Heap}
theorem ok_RankingD_initD (T : Tx K mg) : FnOk P w K mg base CX0 4 T.a_RankingD_initD T.fd_RankingD_initD ["self", "row"] (spInit K T.C) := by
  refine T.F_RankingD_initD.ok sc_RankingD_initD (fun vs H Q E h => ?_) (fun cdv A outer s H vs Q E hr h => ?_)
  · obtain ⟨x, dx, t, row, rfl, _⟩ := h
    rfl
  · obtain ⟨x, dx, t, row, rfl, hx, hT, ro, k⟩ := h
    refine ⟨_, (pss_cons (ps_expr (pe_call (ok_check_row T) (hr.mono (by decide)) rfl T.g_check_row T.F_check_row.kp T.b_check_row .nil pass0 (pa_cons (pv 1) pa_nil)))
      (pss_cons (ps_fld (pv 0) (pv 1) rfl)
      (pss_one (ps_fld (pv 0) (pe_callTy call_tupF (by rfl) T.n_tuple (by decide +kernel) (pa_cons (pe_callB cr_sortedU (by rfl) T.n_sorted (by decide +kernel) (pa_cons (pv 1) pa_nil)) pa_nil)) rfl)))), ?_⟩
    refine ⟨_, rfl, t, row, rfl, hT.sqt, ro, fun H1 s1 => ?_⟩
    have hx1 := s1 _ _ hx
    refine ⟨_, rfl, _, rfl, x, T.C, dx, _, rfl, hx1, T.cl, T.no__row, (by show 0 < 1000; decide), ?_⟩
    have b2 : SameB x H (upd H1 x (.ins T.C dx (putF "_row" (.ref t) []))) := (SameB.of s1).put
    have hT2 := sqt_but (K := K) b2 hx hT.sqt
    have hz : row.length < 64 := by
      have := ro.le
      omega
    refine ⟨_, rfl, t, row, rfl, hT2, hz, fun ys p pm so np => ⟨p, _, rfl, .inl ⟨lst_of upd_same, fun u ou nu od => ?_⟩⟩⟩
    have b3 := (b2.new np (o := .lst (ys.map V.str))).new nu (o := .frz ou (.tup (ys.map V.str)))
    have npx : x ≠ p := fun e => by
      rw [← e, upd_same] at np
      cases np
    have nux : x ≠ u := fun e => by
      rw [← e, upd_ne npx, upd_same] at nu
      cases nu
    refine ⟨_, rfl, x, T.C, dx, _, rfl, (by rw [upd_ne nux, upd_ne npx]; exact upd_same), T.cl, T.no__things, (by show 1 < 1000; decide), ?_⟩
    refine k _ b3.put ⟨dx, t, u, ys, upd_same, hT.but b3.put hx (by intro o q; cases q), ?_, pm, so, ro⟩
    refine frz_of (o := ou) ?_
    rw [upd_ne nux.symm]
    exact upd_same
theorem ok_Ranking_row (T : Tx K mg) : FnOk P w K mg base CX0 1 T.a_Ranking_row T.fd_Ranking_row ["self"] (spRow K T.C) := by
  refine T.F_Ranking_row.ok sc_Ranking_row (fun vs H Q E h => ?_) (fun cdv A outer s H vs Q E hr h => ?_)
  · obtain ⟨x, row, rfl, _⟩ := h
    rfl
  · obtain ⟨x, row, rfl, ⟨dx, t, ts, th, hx, hT, _⟩, k⟩ := h
    refine ⟨_, (pss_one (ps_ret (pe_fld (pv 0) rfl))), ?_⟩
    exact ⟨_, rfl, x, T.C, dx, _, _, rfl, hx, T.cl, T.no__row, pf_row t ts, k t hT.sqt⟩
theorem ok_Ranking_best (T : Tx K mg) : FnOk P w K mg base CX0 4 T.a_Ranking_best T.fd_Ranking_best ["self", "menu"] (spBest K T.C) := by
  refine T.F_Ranking_best.ok sc_Ranking_best (fun vs H Q E h => ?_) (fun cdv A outer s H vs Q E hr h => ?_)
  · obtain ⟨x, m, row, ms, rfl, _⟩ := h
    rfl
  · obtain ⟨x, m, row, ms, rfl, ⟨dx, t, ts, th, hx, hT, hS, pm, so, ro⟩, hM, hne, hin, hpw, hz, k⟩ := h
    refine ⟨_, (pss_cons (ps_expr (pe_call (ok_check_menu T) (hr.mono (by decide)) rfl T.g_check_menu T.F_check_menu.kp T.b_check_menu .nil pass0 (pa_cons (pv 1) (pa_cons (pe_fld (pv 0) rfl) pa_nil))))
      (pss_one (ps_ret (pe_ix ix_list (pe_lc (own := [("thing", 2)]) (g := gName 2) (tt := tTest (tOp (rIn K false) (tVar 2) (tVar 1))) rfl sc_Ranking_best.nd (pi_tup (pe_fld (pv 0) rfl)) (blkOk_by (own := [("thing", 2)]) (N := names_Ranking_best) (sc := defScope st_Ranking_best) (by decide +kernel)) (fun _ _ _ _ _ => pg_name (i := 2) sc_Ranking_best.nd rfl (Or.inl rfl)) (fun _ _ _ _ _ => pts_one (pt_cmpR op_in_seq (pv 2) (pv 1) (by rfl))) (fun _ _ _ _ _ => (pv 2))) pe_int (fun _ _ => rfl))))), ?_⟩
    refine ⟨_, rfl, _, rfl, x, T.C, dx, _, _, rfl, hx, T.cl, T.no__things, pf_things t ts, m, ts, ms, th, rfl, hM, hS, hne, hz, fun z hz => pm.symm.subset (hin z hz), hpw, fun H1 s1 => ?_⟩
    refine ⟨_, rfl, x, T.C, dx, _, _, rfl, s1 _ _ hx, T.cl, T.no__row, pf_row t ts, t, rfl, ⟨_, s1.sqt hT.sqt⟩, fun D nD => lc_tup (K := K) (a := t) (xs := row.map V.str)
      (fun i H' => Same H1 H' ∧ H' D = some (.lst (((row.take i).filter fun z => decide (z ∈ ms)).map V.str))) ⟨Same.new nD, upd_same⟩ (fun i H' _ h => h.1.sqt (s1.sqt hT.sqt)) ?_ ?_⟩
    · rintro i y H2 hy ⟨s2, e2⟩
      obtain ⟨z, hz, rfl⟩ := str_at hy
      refine ⟨rfl, ?_⟩
      refine ⟨_, rfl, _, rfl, m, _, rfl, .inr (s2.sqt (s1.sqt hM)), rfl, flat_strs ms, _, rfl, ?_⟩
      have tf := take_filter (f := fun z => decide (z ∈ ms)) hz
      have iv : inV (.str z) (ms.map V.str) = decide (z ∈ ms) := inV_strs z ms
      refine ite2 (fun c => ?_) (fun c => ?_)
      · have c : inV (.str z) (ms.map V.str) = true := c
        rw [iv] at c
        refine ⟨_, rfl, _, e2, lt_line ?_, fun q o e => ?_, ?_⟩
        · rw [List.length_map]
          have q1 := List.length_filter_le (fun z => decide (z ∈ ms)) (row.take i)
          rw [List.length_take] at q1
          have := ro.le
          omega
        · rw [upd_ne (ne_of_none e nD)]
          exact s2 _ _ e
        · rw [upd_same, tf, if_pos c, List.map_append]
          rfl
      · have c : ¬ inV (.str z) (ms.map V.str) = true := c
        rw [iv] at c
        refine ⟨s2, ?_⟩
        rw [tf, if_neg c, List.append_nil]
        exact e2
    · rintro H2 ⟨s2, e2⟩
      rw [List.length_map, List.take_length] at e2
      obtain ⟨a, r, e⟩ := List.exists_cons_of_ne_nil (filter_ne hne hin)
      rw [e] at e2
      refine ⟨D, _, 0, V.str a, rfl, rfl, lst_of e2, atI_nat (j := 0) rfl, ?_⟩
      have kk := k H2 (s1.trans s2)
      have ef : firstIn row ms = a := by
        unfold firstIn
        rw [e]
        rfl
      rw [ef] at kk
      exact kk
theorem ok_index_of (T : Tx K mg) : FnOk P w K mg base CX0 1 T.a_index_of T.fd_index_of ["name", "names"] (spIndexOf K) := by
  refine T.F_index_of.ok sc_index_of (fun vs H Q E h => ?_) (fun cdv A outer s H vs Q E hr h => ?_)
  · obtain ⟨z, t, row, j, rfl, _⟩ := h
    rfl
  · obtain ⟨z, t, row, j, rfl, hT, hj, nd, hl, k⟩ := h
    refine ⟨_, (pss_one (ps_ret (pe_ix ix_list (pe_lc (own := [("at", 2), ("other", 3)]) (g := gTup K 2 (gCons (gName 2) (gCons (gName 3) gNil))) (tt := tTest (tOp rEq (tVar 3) (tVar 0))) rfl sc_index_of.nd (pi_enumT (by rfl) T.n_enumerate (pa_cons (pv 1) pa_nil)) (blkOk_by (own := [("at", 2), ("other", 3)]) (N := names_index_of) (sc := defScope st_index_of) (by decide +kernel)) (fun _ _ _ _ _ => pg_tup rfl (pgs_cons (pg_name (i := 2) sc_index_of.nd rfl (Or.inl rfl)) (pgs_cons (pg_name (i := 3) sc_index_of.nd rfl (Or.inl rfl)) pgs_nil))) (fun _ _ _ _ _ => pts_one (pt_cmpR op_eq (pv 3) (pv 0) (nomark _))) (fun _ _ _ _ _ => (pv 2))) pe_int (fun _ _ => rfl)))), ?_⟩
    refine ⟨_, rfl, t, _, rfl, hT, fun D nD => lc_it walk_enumT (fun i H' => Same H H' ∧ H' D = some (.lst (if j < i then [V.int (j : Nat)] else []))) ⟨Same.new nD, by rw [if_neg (by omega)]; exact upd_same⟩ (fun i H' _ h => h.1.sqt hT) ?_ ?_⟩
    · rintro i x H1 H2 hi ⟨s1, e1⟩ ⟨p, y1, y2, rfl, np, rfl, ee1, ee2⟩
      cases ee1
      rw [List.length_map] at hi
      obtain ⟨y, hy, rfl⟩ := str_at ee2
      have s2 := s1.new' np (o := .tup [.int (i : Nat), .str y])
      have nDp : D ≠ p := ne_of_none e1 np
      refine ⟨p, _, rfl, tup_of upd_same, rfl, _, _, rfl, _, _, rfl, rfl, rfl, ?_⟩
      refine ⟨_, rfl, _, rfl, rfl, _, rfl, ?_⟩
      have e2 := (upd_ne (o := .tup [.int (i : Nat), .str y]) nDp).trans e1
      refine ite2 (fun c => ?_) (fun c => ?_)
      · have c : y = z := by
          have q := of_decide_eq_true c
          cases q
          rfl
        subst c
        have ij : i = j := by
          obtain ⟨h1, q1⟩ := List.getElem?_eq_some_iff.mp hy
          obtain ⟨h2, q2⟩ := List.getElem?_eq_some_iff.mp hj
          exact (List.getElem_inj nd).mp (q1.trans q2.symm)
        subst ij
        rw [if_neg (by omega)] at e2
        refine ⟨_, rfl, _, e2, lt_line (by show 0 < 100000; decide), fun b o h => ?_, ?_⟩
        · rw [upd_ne (ne_of_none h nD)]
          exact s2 _ _ h
        · rw [upd_same, if_pos (by omega)]
          rfl
      · have ij : i ≠ j := fun q => by
          subst q
          rw [hy] at hj
          cases hj
          exact c (decide_eq_true rfl)
        refine ⟨s2, ?_⟩
        rw [e2]
        congr 2
        by_cases q : j < i
        · rw [if_pos q, if_pos (by omega)]
        · rw [if_neg q, if_neg (by omega)]
    · rintro H1 ⟨s1, e1⟩
      rw [List.length_map, if_pos (List.getElem?_eq_some_iff.mp hj).1] at e1
      exact ⟨D, _, 0, V.int (j : Nat), rfl, rfl, lst_of e1, atI_nat (j := 0) rfl, k H1 s1⟩
theorem ok_Ranking_place (T : Tx K mg) : FnOk P w K mg base CX0 4 T.a_Ranking_place T.fd_Ranking_place ["self", "thing"] (spPlace K T.C) := by
  refine T.F_Ranking_place.ok sc_Ranking_place (fun vs H Q E h => ?_) (fun cdv A outer s H vs Q E hr h => ?_)
  · obtain ⟨x, row, z, j, rfl, _⟩ := h
    rfl
  · obtain ⟨x, row, z, j, rfl, ⟨dx, t, ts, th, hx, hT, hS, pm, so, ro⟩, hj, k⟩ := h
    refine ⟨_, (pss_cons (ps_expr (pe_call (ok_check_thing T) (hr.mono (by decide)) rfl T.g_check_thing T.F_check_thing.kp T.b_check_thing .nil pass0 (pa_cons (pv 1) (pa_cons (pe_fld (pv 0) rfl) pa_nil))))
      (pss_one (ps_ret (pe_call (ok_index_of T) (hr.mono (by decide)) rfl T.g_index_of T.F_index_of.kp T.b_index_of .nil pass0 (pa_cons (pv 1) (pa_cons (pe_fld (pv 0) rfl) pa_nil)))))), ?_⟩
    refine ⟨_, rfl, _, rfl, x, T.C, dx, _, _, rfl, hx, T.cl, T.no__things, pf_things t ts, z, ts, th, rfl, hS, pm.symm.subset (List.mem_of_getElem? hj), ?_⟩
    exact ⟨_, rfl, _, rfl, x, T.C, dx, _, _, rfl, hx, T.cl, T.no__row, pf_row t ts, z, t, row, j, rfl, hT.sqt, hj, ro.nd, Nat.le_trans ro.le (by decide), k⟩
theorem ok_Ranking_below (T : Tx K mg) : FnOk P w K mg base CX0 6 T.a_Ranking_below T.fd_Ranking_below ["self", "thing"] (spBelow K T.C) := by
  refine T.F_Ranking_below.ok sc_Ranking_below (fun vs H Q E h => ?_) (fun cdv A outer s H vs Q E hr h => ?_)
  · obtain ⟨x, row, z, j, rfl, _⟩ := h
    rfl
  · obtain ⟨x, row, z, j, rfl, rk, hj, k⟩ := h
    obtain ⟨dx, t, ts, th, hx, hT, hS, pm, so, ro⟩ := id rk
    refine ⟨_, (pss_one (ps_ret (pe_callTy call_tupF (by rfl) T.n_tuple (by decide +kernel) (pa_cons (pe_callB cr_sortedU (by rfl) T.n_sorted (by decide +kernel) (pa_cons (pe_slice sl_tupA (pe_fld (pv 0) rfl) (po_some (pe_op op_add (pe_meth (pv 0) T.cl T.m_Ranking_place (ok_Ranking_place T) (hr.mono (by decide)) T.b_Ranking_place .nil pass0 (pa_cons (pv 1) pa_nil)) pe_int)) po_none) pa_nil)) pa_nil)))), ?_⟩
    refine ⟨_, rfl, x, T.C, dx, _, _, rfl, hx, T.cl, T.no__row, pf_row t ts, _, rfl, x, dx, _, rfl, hx, pf_no t ts (by decide +kernel) (by decide +kernel), _, rfl, x, row, z, j, rfl, rk, hj, fun H0 s0 => ⟨_, _, rfl, rfl, (j : Int) + 1, rfl, ?_⟩⟩
    dsimp only [tNoPart]
    refine slA_of (lo := some ((j : Int) + 1)) (hi := none) (s0.sqt hT.sqt) fun p H1 s1 hp => ?_
    replace s1 := s0.trans s1
    rw [show ((j : Int) + 1) = ((j + 1 : Nat) : Int) from rfl, cut_from, ← List.map_drop] at hp
    have hz : (row.drop (j + 1)).length < 64 := by
      rw [List.length_drop]
      have := ro.le
      omega
    refine ⟨p, _, rfl, hp, hz, fun ys q pm2 so2 nq => ⟨q, _, rfl, .inl ⟨lst_of upd_same, fun u ou nu od => ?_⟩⟩⟩
    exact k ys u _ pm2 so2 ((s1.new' nq).new' nu) (frz_of upd_same)
end
end MH
namespace MH
open PySem PySem.Spec PyProof.Rows L2
def spLBest (K : PySem.W.Frag) : Sp := fun vs H Q _ => ∃ (r m : Addr) (row ms : List Str), vs = [.ref r, .ref m] ∧ SqT K H r (row.map V.str) ∧ SqT K H m (ms.map V.str) ∧ row.length ≤ 1000 ∧ ms ≠ [] ∧ (∀ z ∈ ms, z ∈ row) ∧ ∀ H', Same H H' → Q (.str (firstIn row ms)) H'
/-- tuples of texts at these places -/
inductive AllT (K : PySem.W.Frag) (H : Hp) : List Addr → List (List Str) → Prop
  | nil : AllT K H [] []
  | cons {a : Addr} {c : List Str} {as : List Addr} {cs : List (List Str)} : SqT K H a (c.map V.str) → AllT K H as cs → AllT K H (a :: as) (c :: cs)
theorem AllT.imp {K : PySem.W.Frag} {H H' : Hp} (f : ∀ a xs, SqT K H a xs → SqT K H' a xs) : ∀ {as : List Addr} {cs : List (List Str)}, AllT K H as cs → AllT K H' as cs
  | _, _, .nil => .nil
  | _, _, .cons h t => .cons (f _ _ h) (t.imp f)
theorem AllT.append {K : PySem.W.Frag} {H : Hp} : ∀ {as : List Addr} {cs : List (List Str)} {bs : List Addr} {ds : List (List Str)}, AllT K H as cs → AllT K H bs ds → AllT K H (as ++ bs) (cs ++ ds)
  | _, _, _, _, .nil, q => q
  | _, _, _, _, .cons h t, q => .cons h (t.append q)
theorem AllT.len {K : PySem.W.Frag} {H : Hp} : ∀ {as : List Addr} {cs : List (List Str)}, AllT K H as cs → as.length = cs.length
  | _, _, .nil => rfl
  | _, _, .cons _ t => congrArg Nat.succ t.len
theorem AllT.get {K : PySem.W.Frag} {H : Hp} : ∀ {as : List Addr} {cs : List (List Str)} {i : Nat} {a : Addr}, AllT K H as cs → as[i]? = some a → ∃ c, cs[i]? = some c ∧ SqT K H a (c.map V.str)
  | _, _, i, a, .nil, e => by simp at e
  | _, _, 0, a, .cons h t, e => by
    obtain rfl := Option.some.inj e
    exact ⟨_, rfl, h⟩
  | _, _, i + 1, a, .cons h t, e => t.get (i := i) e
theorem AllT.tail {K : PySem.W.Frag} {H : Hp} : ∀ {as : List Addr} {cs : List (List Str)}, AllT K H as cs → AllT K H as.tail cs.tail
  | _, _, .nil => .nil
  | _, _, .cons _ t => t
theorem ref_at {as : List Addr} {i : Nat} {y : V} (h : (as.map V.ref)[i]? = some y) : ∃ a, as[i]? = some a ∧ y = V.ref a := by
  rw [List.getElem?_map] at h
  cases e : as[i]? with
  | none =>
    rw [e] at h
    cases h
  | some a =>
    rw [e] at h
    exact ⟨a, rfl, (Option.some.inj h).symm⟩
def spLMenus (K : PySem.W.Frag) : Sp := fun vs H Q _ => ∃ (t : Addr) (ss : List Str), vs = [.ref t] ∧ SqT K H t (ss.map V.str) ∧ ss.length ≤ 10 ∧
  ∀ (l : Addr) (as : List Addr) (H' : Hp), Same H H' → H' l = some (.lst (as.map V.ref)) → AllT K H' as (menusOf ss) → Q (.ref l) H'
section
variable {P : Program} {w : World} {K : PySem.W.Frag} {mg : Str → Option Value} {base : Heap}
theorem ok_l_best (T : Tx K mg) : FnOk P w K mg base CX0 1 T.a_l_best T.fd_l_best ["_law_row", "_law_card"] (spLBest K) := by
  refine T.F_l_best.ok sc_l_best (fun vs H Q E h => ?_) (fun cdv A outer s H vs Q E hr h => ?_)
  · obtain ⟨r, m, row, ms, rfl, _⟩ := h
    rfl
  · obtain ⟨t, m, row, ms, rfl, hT, hM, hz, hne, hin, k⟩ := h
    refine ⟨_, (pss_one (ps_ret (pe_ix ix_list (pe_lc (own := [("_law_item", 2)]) (g := gName 2) (tt := tTest (tOp (rIn K false) (tVar 2) (tVar 1))) rfl sc_l_best.nd (pi_tup (pv 0)) (blkOk_by (own := [("_law_item", 2)]) (N := names_l_best) (sc := defScope st_l_best) (by decide +kernel)) (fun _ _ _ _ _ => pg_name (i := 2) sc_l_best.nd rfl (Or.inl rfl)) (fun _ _ _ _ _ => pts_one (pt_cmpR op_in_seq (pv 2) (pv 1) (by rfl))) (fun _ _ _ _ _ => (pv 2))) pe_int (fun _ _ => rfl)))), ?_⟩
    refine ⟨_, rfl, t, rfl, ⟨_, hT⟩, fun D nD => lc_tup (K := K) (a := t) (xs := row.map V.str)
      (fun i H' => Same H H' ∧ H' D = some (.lst (((row.take i).filter fun z => decide (z ∈ ms)).map V.str))) ⟨Same.new nD, upd_same⟩ (fun i H' _ h => h.1.sqt hT) ?_ ?_⟩
    · rintro i y H2 hy ⟨s2, e2⟩
      obtain ⟨z, hz', rfl⟩ := str_at hy
      refine ⟨rfl, ?_⟩
      refine ⟨_, rfl, _, rfl, m, _, rfl, .inr (s2.sqt hM), rfl, flat_strs ms, _, rfl, ?_⟩
      have tf := take_filter (f := fun z => decide (z ∈ ms)) hz'
      have iv : inV (.str z) (ms.map V.str) = decide (z ∈ ms) := inV_strs z ms
      refine ite2 (fun c => ?_) (fun c => ?_)
      · have c : inV (.str z) (ms.map V.str) = true := c
        rw [iv] at c
        refine ⟨_, rfl, _, e2, lt_line ?_, fun q o e => ?_, ?_⟩
        · rw [List.length_map]
          have q1 := List.length_filter_le (fun z => decide (z ∈ ms)) (row.take i)
          rw [List.length_take] at q1
          omega
        · rw [upd_ne (ne_of_none e nD)]
          exact s2 _ _ e
        · rw [upd_same, tf, if_pos c, List.map_append]
          rfl
      · have c : ¬ inV (.str z) (ms.map V.str) = true := c
        rw [iv] at c
        refine ⟨s2, ?_⟩
        rw [tf, if_neg c, List.append_nil]
        exact e2
    · rintro H2 ⟨s2, e2⟩
      rw [List.length_map, List.take_length] at e2
      obtain ⟨a, r, e⟩ := List.exists_cons_of_ne_nil (filter_ne hne hin)
      rw [e] at e2
      refine ⟨D, _, 0, V.str a, rfl, rfl, lst_of e2, atI_nat (j := 0) rfl, ?_⟩
      have kk := k H2 s2
      have ef : firstIn row ms = a := by
        unfold firstIn
        rw [e]
        rfl
      rw [ef] at kk
      exact kk
theorem ok_l_menus (T : Tx K mg) : FnOk P w K mg base CX0 1 T.a_l_menus T.fd_l_menus ["_law_things_here"] (spLMenus K) := by
  refine T.F_l_menus.ok sc_l_menus (fun vs H Q E h => ?_) (fun cdv A outer s H vs Q E hr h => ?_)
  · obtain ⟨t, ss, rfl, _⟩ := h
    rfl
  · obtain ⟨t, ss, rfl, hT, hz, k⟩ := h
    refine ⟨_, (pss_cons (ps_set (i := 1) sc_l_menus.nd rfl (Or.inl rfl) (pe_lst (pa_cons (pe_tup pa_nil) pa_nil)))
      (pss_cons (ps_for PassesOwn.never rfl (pi_tup (pv 0)) (pg_name (i := 2) sc_l_menus.nd rfl (Or.inr rfl))
        (pss_one (ps_set (i := 1) sc_l_menus.nd rfl (Or.inl rfl) (pe_op op_cat (pv 1) (pe_lc (own := [("_law_card", 3)]) (g := gName 3) (tt := tYes) rfl sc_l_menus.nd (pi_list (pv 1)) (blkOk_by (own := [("_law_card", 3)]) (N := names_l_menus) (sc := defScope st_l_menus) (by decide +kernel)) (fun _ _ _ _ _ => pg_name (i := 3) sc_l_menus.nd rfl (Or.inl rfl)) (fun _ _ _ _ _ => pts_nil) (fun _ _ _ _ _ => (pe_op (r := rCatA K) op_catA (pv 3) (pe_tup (pa_cons (pv 2) pa_nil)))))))))
      (pss_one (ps_ret (pe_slice sl_list (pv 1) (po_some pe_int) po_none))))), ?_⟩
    refine ⟨Nat.zero_le _, fun e0 ne0 => ⟨(by show 1 ≤ sizeLine; decide), fun l0 nl0 => ?_⟩⟩
    have s0 := (Same.new ne0 (o := .tup [])).new' nl0 (o := .lst [.ref e0])
    have nel : e0 ≠ l0 := fun e => by
      rw [e, upd_same] at nl0
      cases nl0
    refine ⟨_, rfl, t, rfl, ⟨_, s0.sqt hT⟩, for_tup (K := K) (a := t) (xs := ss.map V.str) (fun i σ H' => ∃ (l : Addr) (as : List Addr) (v2 v3 : Option V), σ = [some (.ref t), some (.ref l), v2, v3] ∧ Same H H' ∧ H' l = some (.lst (as.map V.ref)) ∧ AllT K H' as (menusUp (ss.take i)))
      ⟨l0, [e0], none, none, rfl, s0, upd_same, .cons (tup_of (by rw [upd_ne nel]; exact upd_same)) .nil⟩ (fun i σ H' _ ⟨_, _, _, _, _, s1, _⟩ => s1.sqt hT) ?_ ?_⟩
    · rintro i y σ H1 hy ⟨l, as, v2, v3, rfl, s1, hl, ha⟩
      obtain ⟨z, hz', rfl⟩ := str_at hy
      have hi : i < ss.length := (List.getElem?_eq_some_iff.mp hz').1
      have la : as.length ≤ 1024 := by
        rw [ha.len, menusUp_len _ _ rfl, List.length_take]
        exact Nat.pow_le_pow_right (by decide) (by omega : min i ss.length ≤ 10)
      refine ⟨_, rfl, _, rfl, l, rfl, ⟨_, lst_of hl⟩, fun D nD => lc_list (K := K) (a := l) (xs := as.map V.ref)
        (fun j H2 => Same H1 H2 ∧ ∃ bs : List Addr, H2 D = some (.lst (bs.map V.ref)) ∧ AllT K H2 bs (((menusUp (ss.take i)).take j).map (· ++ [z]))) ⟨Same.new nD, [], upd_same, .nil⟩ (fun j H2 _ h => lst_of (h.1 _ _ hl)) ?_ ?_⟩
      · rintro j y H2 hy2 ⟨s2, bs, hD, hb⟩
        obtain ⟨a, haj, rfl⟩ := ref_at hy2
        obtain ⟨c, hc, hac⟩ := ha.get haj
        refine ⟨rfl, ?_⟩
        have cl : c.length ≤ 10 := by
          have := (menusUp_sub _ _ rfl c (List.mem_of_getElem? hc)).length_le
          rw [List.length_take] at this
          omega
        have lb : bs.length ≤ 1024 := by
          rw [hb.len, List.length_map, List.length_take, menusUp_len _ _ rfl, List.length_take]
          have : 2 ^ (min i ss.length) ≤ 2 ^ 10 := Nat.pow_le_pow_right (by decide) (by omega)
          omega
        have fin : ∀ (q : Addr) (H4 : Hp), Same H2 H4 → SqT K H4 q ((c ++ [z]).map V.str) → ∃ acc, H4 D = some (.lst acc) ∧ acc.length < sizeLine ∧ (Same H1 (upd H4 D (.lst (acc ++ [.ref q]))) ∧ ∃ bs' : List Addr, (upd H4 D (.lst (acc ++ [.ref q]))) D = some (.lst (bs'.map V.ref)) ∧
            AllT K (upd H4 D (.lst (acc ++ [.ref q]))) bs' (((menusUp (ss.take i)).take (j + 1)).map (· ++ [z]))) := fun q H4 s4 hq => by
          have hD4 := s4 _ _ hD
          have keep : ∀ a xs, SqT K H4 a xs → SqT K (upd H4 D (.lst (bs.map V.ref ++ [.ref q]))) a xs := fun a xs h => ((SameB.refl D H4).put (o := .lst (bs.map V.ref ++ [.ref q]))).sqt hD4 h
          refine ⟨_, hD4, lt_line (by rw [List.length_map]; omega), fun b o e => ?_, bs ++ [q], by rw [upd_same, List.map_append]; rfl, ?_⟩
          · rw [upd_ne (ne_of_none e nD)]
            exact s4 _ _ (s2 _ _ e)
          · rw [List.take_add_one, hc, List.map_append]
            exact (hb.imp fun a xs h => keep a xs (s4.sqt h)).append (.cons (keep _ _ hq) .nil)
        refine ⟨_, rfl, _, rfl, (by show 1 ≤ sizeLine; decide), fun p np => ?_⟩
        have s3 := Same.new np (o := .tup [V.str z])
        refine ⟨a, p, c.map V.str, [.str z], rfl, rfl, s3.sqt (s2.sqt hac), tup_of upd_same, le_line (by rw [List.length_map]; show c.length + 1 ≤ _; omega), fun e => ?_, fun _ e => (nomatch e), fun _ _ q nq => ?_⟩
        · obtain rfl : c = [] := by simpa using e
          exact fin p _ s3 (tup_of upd_same)
        · refine fin q _ (s3.new' nq) (tup_of ?_)
          rw [upd_same, List.map_append]
          rfl
      · rintro H2 ⟨s2, bs, hD, hb⟩
        rw [List.length_map] at hb
        rw [List.take_of_length_le (by rw [ha.len]; exact Nat.le_refl _)] at hb
        have lb : bs.length = as.length := by rw [hb.len, List.length_map, ha.len]
        refine ⟨l, D, _, _, rfl, rfl, s2 _ _ hl, hD, le_line (by rw [List.length_map, List.length_map]; omega), fun q nq => ?_⟩
        refine ⟨q, as ++ bs, _, _, rfl, (s1.trans s2).new' nq, by rw [upd_same, List.map_append], ?_⟩
        rw [List.take_add_one, hz', show (some z).toList = [z] from rfl, menusUp_snoc]
        exact ((ha.imp fun a xs h => s2.sqt h).append hb).imp fun a xs h => (Same.new nq).sqt h
    · rintro σ H1 ⟨l, as, v2, v3, rfl, s1, hl, ha⟩
      rw [List.length_map, List.take_length] at ha
      refine ⟨_, rfl, 1, rfl, l, _, rfl, lst_of hl, fun q nq => ?_⟩
      have e1 : cutV (as.map V.ref) (some 1) none = as.tail.map V.ref := by
        rw [show (1 : Int) = ((1 : Nat) : Int) from rfl, cut_from, List.drop_one, List.map_tail]
      rw [e1]
      exact k q as.tail _ (s1.new' nq) upd_same (ha.tail.imp fun a xs h => (Same.new nq).sqt h)
end
end MH
namespace MH
open PySem PySem.Spec PyProof.Rows L2
theorem AllT.same {K : PySem.W.Frag} {H H' : Hp} (s : Same H H') {as : List Addr} {cs : List (List Str)} (h : AllT K H as cs) : AllT K H' as cs := h.imp fun a xs q => s.sqt q
/-- a pair of a tuple of names and a number, shown -/
theorem repr_pair {K : PySem.W.Frag} {H : Hp} {a b : Addr} {ys : List Str} {j : Nat} (ha : SqT K H a [.ref b, .int (j : Nat)]) (hb : SqT K H b (ys.map V.str)) (hy : ∀ z ∈ ys, nameOk z = true) (hz : ys.length ≤ 100) (hj : j < 1000000) :
    ShowOk K H a (PyData.tuple [.tuple (ys.map .str), .int (j : Nat)]) := by
  have c1 := costAll_strs (n := 8) fun z hz => nameOk_len (hy z hz)
  refine show_of (.tup ha (.cons (.tup hb (dp_strs ys)) (.cons (.int _) .nil))) ?_ ?_ ?_
  · show (okDs (ys.map PyData.str) && (decide ((j : Int).natAbs < 10 ^ 100) && true)) = true
    rw [okDs_strs fun z hz => nameOk_str (hy z hz)]
    have : ((j : Int).natAbs < 10 ^ 100) := by
      rw [Int.natAbs_natCast]
      exact Nat.lt_of_lt_of_le hj (by decide +kernel)
    rw [decide_eq_true this]
    rfl
  · simp only [PyData.depth, PyData.depthAll, depth_strs]
    decide
  · show costAll (ys.map PyData.str) + 3 + 2 + (101 + 2 + 0) + 3 ≤ 100000
    have : ys.length * (10 * 8 + 4) ≤ 100 * 84 := Nat.mul_le_mul hz (Nat.le_refl _)
    omega
theorem eq_strs {K : PySem.W.Frag} {H : Hp} {a b : Addr} {ys : List Str} {Q : VK} (ha : SqT K H a (ys.map V.str)) (hb : SqT K H b (ys.map V.str)) (hy : ∀ z ∈ ys, nameOk z = true) (q : Q (.bl true) H) : rEqD K (.ref a) (.ref b) H Q := by
  have ok : okD (.tuple (ys.map PyData.str)) = true := okDs_strs fun z hz => nameOk_str (hy z hz)
  have sh : SeqAt.shaped (.tuple (ys.map PyData.str)) = true := shaped_of ok (by simp only [PyData.depth, depth_strs]; decide)
  refine ⟨_, _, .tup ha (dp_strs ys), .tup hb (dp_strs ys), sh, sh, ?_⟩
  rw [SeqAt.eqv_refl _ (ok_lay _ ok)]
  exact q
def spRight (K : PySem.W.Frag) : Sp := fun vs H Q _ => ∃ p, vs = [.ref p] ∧ Pu H p ∧ ∀ H', SameB p H H' → Q (.bl true) H'
section
variable {P : Program} {w : World} {K : PySem.W.Frag} {mg : Str → Option Value} {base : Heap}
theorem g_l_right (T : Tx K mg) : FnG P w K mg base 8 T.a_l_right (spRight K) := by
  refine fun_g T.F_l_right sc_l_right T.b_l_right (fun vs H Q E h => ?_) (fun cdv A outer s H vs Q hg hr h => ?_)
  · obtain ⟨p, rfl, _⟩ := h
    rfl
  · obtain ⟨p, rfl, pu, k⟩ := h
    refine ⟨_, (pss_cons (ps_set (i := 1) sc_l_right.nd rfl (Or.inl rfl) (pe_call (ok_l_order T) (hr.mono (by decide)) rfl T.g_l_order T.F_l_order.kp T.b_l_order .nil pass0 (pa_cons (pv 0) (pa_cons (pe_call (ok_l_things T) (hr.mono (by decide)) rfl T.g_l_things T.F_l_things.kp T.b_l_things .nil pass0 (pa_cons (pv 0) (pa_cons (pe_op op_add pe_int (pe_call (ok_l_draw T) (hr.mono (by decide)) rfl T.g_l_draw T.F_l_draw.kp T.b_l_draw .nil pass0 (pa_cons (pv 0) (pa_cons pe_int pa_nil)))) pa_nil))) pa_nil))))
      (pss_cons (ps_set (i := 2) sc_l_right.nd rfl (Or.inl rfl) (pe_make T.mkc (ok_RankingD_initD T) (hr.mono (by decide)) rfl T.g_Ranking T.b_RankingD_initD .nil pass0 (pa_cons (pv 1) pa_nil)))
      (pss_cons (ps_for PassesOwn.never rfl (pi_list (pe_call (ok_l_menus T) (hr.mono (by decide)) rfl T.g_l_menus T.F_l_menus.kp T.b_l_menus .nil pass0 (pa_cons (pe_callTy call_tupF (by rfl) T.n_tuple (by decide +kernel) (pa_cons (pe_callB cr_sortedU (by rfl) T.n_sorted (by decide +kernel) (pa_cons (pv 1) pa_nil)) pa_nil)) pa_nil))) (pg_name (i := 3) sc_l_right.nd rfl (Or.inl rfl))
        (pss_cons (ps_set (i := 4) sc_l_right.nd rfl (Or.inl rfl) (pe_call (ok_l_best T) (hr.mono (by decide)) rfl T.g_l_best T.F_l_best.kp T.b_l_best .nil pass0 (pa_cons (pv 1) (pa_cons (pv 3) pa_nil))))
      (pss_one (ps_if (PW.pt (pw_or (pt_cmpR op_ne (pe_meth (pv 2) T.cl T.m_Ranking_best (ok_Ranking_best T) (hr.mono (by decide)) T.b_Ranking_best .nil pass0 (pa_cons (pv 3) pa_nil)) (pv 4) (nomark _)) (pw_or1 (pt_cmpR op_ne (pe_methK0 (pv 2) T.cl T.m_Ranking_best (ok_Ranking_best T) (hr.mono (by decide)) T.kb_Ranking_best pass0 (pk_cons (pv 3) pk_nil)) (pv 4) (nomark _)))))
        (pss_one (ps_ret pe_bl))
        pss_nil))))
      (pss_cons (ps_for PassesOwn.never rfl (pi_range1 (by rfl) T.n_range (pa_cons (pe_callB call_len_seq (by rfl) T.n_len (by decide +kernel) (pa_cons (pv 1) pa_nil)) pa_nil)) (pg_name (i := 5) sc_l_right.nd rfl (Or.inl rfl))
        (pss_cons (ps_set (i := 4) sc_l_right.nd rfl (Or.inl rfl) (pe_tup (pa_cons (pe_callTy call_tupF (by rfl) T.n_tuple (by decide +kernel) (pa_cons (pe_callB cr_sortedU (by rfl) T.n_sorted (by decide +kernel) (pa_cons (pe_slice sl_tupA (pv 1) (po_some (pe_op op_add (pv 5) pe_int)) po_none) pa_nil)) pa_nil)) (pa_cons (pv 5) pa_nil))))
      (pss_cons (ps_if (pt_cmpR op_ne (pe_callB (call_reprD hg hr.units) (by rfl) T.n_repr (by decide +kernel) (pa_cons (pe_tup (pa_cons (pe_meth (pv 2) T.cl T.m_Ranking_below (ok_Ranking_below T) (hr.mono (by decide)) T.b_Ranking_below .nil pass0 (pa_cons (pe_ix ix_tup (pv 1) (pv 5) (fun _ _ => rfl)) pa_nil)) (pa_cons (pe_meth (pv 2) T.cl T.m_Ranking_place (ok_Ranking_place T) (hr.mono (by decide)) T.b_Ranking_place .nil pass0 (pa_cons (pe_ix ix_tup (pv 1) (pv 5) (fun _ _ => rfl)) pa_nil)) pa_nil))) pa_nil)) (pe_callB (call_reprD hg hr.units) (by rfl) T.n_repr (by decide +kernel) (pa_cons (pv 4) pa_nil)) (nomark _))
        (pss_one (ps_ret pe_bl))
        pss_nil)
      (pss_one (ps_if (pt_cmpR op_ne (pe_callB (call_reprD hg hr.units) (by rfl) T.n_repr (by decide +kernel) (pa_cons (pe_tup (pa_cons (pe_methK0 (pv 2) T.cl T.m_Ranking_below (ok_Ranking_below T) (hr.mono (by decide)) T.kb_Ranking_below pass0 (pk_cons (pe_ix ix_tup (pv 1) (pv 5) (fun _ _ => rfl)) pk_nil)) (pa_cons (pe_methK0 (pv 2) T.cl T.m_Ranking_place (ok_Ranking_place T) (hr.mono (by decide)) T.kb_Ranking_place pass0 (pk_cons (pe_ix ix_tup (pv 1) (pv 5) (fun _ _ => rfl)) pk_nil)) pa_nil))) pa_nil)) (pe_callB (call_reprD hg hr.units) (by rfl) T.n_repr (by decide +kernel) (pa_cons (pv 4) pa_nil)) (nomark _))
        (pss_one (ps_ret pe_bl))
        pss_nil)))))
      (pss_one (ps_ret (pe_cmpR (op_eqD hr.units) (pe_prop (pv 2) T.cl T.p_row (ok_Ranking_row T) (hr.mono (by decide)) T.b_Ranking_row .nil pass0 (by rfl)) (pv 1) (nomark _)))))))), ?_⟩
    refine ⟨_, rfl, _, rfl, _, rfl, p, 6, rfl, pu, by decide, by decide, fun d H1 d0 d1 sb1 pu1 => ⟨_, _, rfl, rfl, p, _, rfl, pu1, by omega, by omega, fun ss a H2 nd so mem len sb2 pu2 hT => ?_⟩⟩
    have lss : ss.length ≤ 7 := by omega
    refine ⟨p, a, ss, rfl, pu2, hT, by omega, fun row t H3 pm sb3 pu3 hR => ?_⟩
    have lrow : row.length ≤ 7 := by rw [pm.length_eq]; exact lss
    have ro : RowOk row := {
      ne := fun e => by
        have := pm.length_eq
        rw [e, len] at this
        simp only [List.length_nil] at this
        omega
      le := by omega
      nd := pm.nodup_iff.mpr nd
      ok := fun z hz => pool_ok z (mem z (pm.subset hz)) }
    have okr := ro.ok
    have sb := sb1.trans (sb2.trans sb3)
    refine ⟨_, rfl, fun x dx nx ndx nex => ⟨x, dx, t, row, rfl, upd_same, ?_, ro, fun H5 sx5 rk5 => ⟨rfl, ?_⟩⟩⟩
    · refine hR.same ?_
      refine Same.new' (Same.new ndx) ?_
      rw [upd_ne nex.symm]
      exact nx
    have s35 : Same H3 H5 := fun b o e => by
      have nb : b ≠ x := ne_of_none e nx
      refine sx5 b o nb ?_
      rw [upd_ne nb, upd_ne (ne_of_none e ndx)]
      exact e
    have sb5 : SameB p H H5 := sb.trans (SameB.of s35)
    have hR5 := hR.same s35
    refine ⟨_, rfl, t, row, rfl, hR5.sqt, by omega, fun ys q pm2 so2 nq => ⟨q, _, rfl, .inl ⟨lst_of upd_same, fun u ou nu od => ?_⟩⟩⟩
    have s6 := (Same.new nq (o := .lst (ys.map V.str))).new' nu (o := .frz ou (.tup (ys.map V.str)))
    have lys : ys.length ≤ 7 := by rw [pm2.length_eq]; exact lrow
    have ysd : ys.Nodup := pm2.nodup_iff.mpr ro.nd
    refine ⟨u, ys, rfl, frz_of upd_same, by omega, fun l as H7 s67 hl hall => ?_⟩
    have s57 := s6.trans s67
    refine ⟨l, rfl, ⟨_, lst_of hl⟩, for_list (K := K) (a := l) (xs := as.map V.ref) (fun i σ H' => ∃ v3 v4, σ = [some (.ref p), some (.ref t), some (.ref x), v3, v4, none] ∧ Same H7 H')
      ⟨none, none, rfl, Same.refl _⟩ (fun i σ H' _ ⟨_, _, _, s⟩ => lst_of (s _ _ hl)) ?_ ?_⟩
    · rintro i y σ H8 hy ⟨v3, v4, rfl, s78⟩
      obtain ⟨m, hm, rfl⟩ := ref_at hy
      obtain ⟨c, hc, hmc⟩ := hall.get hm
      obtain ⟨cne, csub⟩ := menusOf_ok (List.mem_of_getElem? hc)
      have cin : ∀ z ∈ c, z ∈ row := fun z hz => pm2.subset (csub.subset hz)
      have cpw : c.Pairwise ltS := (sorted_lt ysd so2).sublist csub
      have clen : c.length ≤ 1000 := Nat.le_trans csub.length_le (by omega)
      have s58 := s57.trans s78
      refine ⟨_, rfl, _, rfl, t, m, row, c, rfl, hR5.sqt |> s58.sqt, s78.sqt hmc, by omega, cne, cin, fun H9 s9 => ?_⟩
      have s59 := s58.trans s9
      have rk9 := rk5.same s59
      have s79 := s78.trans s9
      obtain ⟨dx9, t9, ts9, th9, hx9, _⟩ := id rk9
      refine ⟨_, rfl, x, dx9, _, rfl, hx9, pf_no t9 ts9 (by decide +kernel) (by decide +kernel), _, rfl, x, m, row, c, rfl, rk9, s79.sqt hmc, cne, cin, cpw, clen, fun H10 s10 => ⟨_, rfl, ⟨rfl, _, rfl, ifF (by simp) ?_⟩⟩⟩
      have rk10 := rk9.same s10
      have s710 := s79.trans s10
      obtain ⟨dx10, t10, ts10, th10, hx10, _⟩ := id rk10
      refine ⟨_, rfl, x, dx10, _, rfl, hx10, pf_no t10 ts10 (by decide +kernel) (by decide +kernel), _, rfl, rfl, x, m, row, c, rfl, rk10, s710.sqt hmc, cne, cin, cpw, clen, fun H11 s11 => ⟨_, rfl, ⟨rfl, _, rfl, ifF (by simp) ?_⟩⟩⟩
      exact ⟨_, _, rfl, s710.trans s11⟩
    · rintro σ H8 ⟨v3, v4, rfl, s78⟩
      have s58 := s57.trans s78
      have hR8 : SqT K H8 t (row.map V.str) := s58.sqt hR5.sqt
      have lm : (row.map V.str).length = row.length := List.length_map _
      refine ⟨_, rfl, t, _, rfl, .inr hR8, _, rfl, by omega, by omega, for_range (lo := 0) (n := ((((row.map V.str).length : Nat) : Int)).toNat) (fun i σ H' => ∃ v3 v4 v5, σ = [some (.ref p), some (.ref t), some (.ref x), v3, v4, v5] ∧ Same H5 H')
        ⟨v3, v4, none, rfl, s58⟩ ?_ ?_⟩
      · rintro i σ H9 hi ⟨w3, w4, w5, rfl, s59⟩
        rw [show (0 : Int) + (i : Int) = ((i : Nat) : Int) from Int.zero_add _]
        have hi : i < row.length := by omega
        have hz : row[i]? = some row[i] := List.getElem?_eq_getElem hi
        generalize row[i] = z at hz
        have at_i : (row.map V.str)[i]? = some (.str z) := by
          rw [List.getElem?_map, hz]
          rfl
        have dle : (row.drop (i + 1)).length ≤ 7 := by
          rw [List.length_drop]
          omega
        have dok : ∀ ws : List Str, ws.Perm (row.drop (i + 1)) → (∀ y ∈ ws, nameOk y = true) ∧ ws.length ≤ 100 := fun ws h => ⟨fun y hy => okr y (List.mem_of_mem_drop (h.subset hy)), by rw [h.length_eq]; omega⟩
        refine ⟨_, rfl, _, rfl, _, _, rfl, rfl, _, rfl, ?_⟩
        dsimp only [tNoPart]
        refine slA_of (lo := some ((i : Int) + 1)) (hi := none) (s59.sqt hR5.sqt) fun c1 H10 s10 hc1 => ?_
        rw [show ((i : Int) + 1) = ((i + 1 : Nat) : Int) from rfl, cut_from, ← List.map_drop] at hc1
        refine ⟨c1, _, rfl, hc1, by omega, fun us q1 pmu sou nq1 => ⟨q1, _, rfl, .inl ⟨lst_of upd_same, fun u1 ou1 nu1 od1 => ?_⟩⟩⟩
        refine ⟨_, rfl, (by show 2 ≤ sizeLine; decide), fun D nD => ?_⟩
        have hu1 : SqT K (upd (upd (upd H10 q1 (.lst (us.map V.str))) u1 (.frz ou1 (.tup (us.map V.str)))) D (.tup [.ref u1, .int (i : Nat)])) u1 (us.map V.str) := (Same.new nD).sqt (frz_of upd_same)
        have hD : SqT K (upd (upd (upd H10 q1 (.lst (us.map V.str))) u1 (.frz ou1 (.tup (us.map V.str)))) D (.tup [.ref u1, .int (i : Nat)])) D [.ref u1, .int (i : Nat)] := tup_of upd_same
        have s511 := (((s59.trans s10).new' nq1 (o := .lst (us.map V.str))).new' nu1 (o := .frz ou1 (.tup (us.map V.str)))).new' nD (o := .tup [.ref u1, .int (i : Nat)])
        generalize (upd (upd (upd H10 q1 (.lst (us.map V.str))) u1 (.frz ou1 (.tup (us.map V.str)))) D (.tup [.ref u1, .int (i : Nat)])) = H11 at hu1 hD s511 ⊢
        have rk11 := rk5.same s511
        obtain ⟨dx11, t11, ts11, th11, hx11, _⟩ := id rk11
        refine ⟨_, rfl, x, dx11, _, rfl, hx11, pf_no t11 ts11 (by decide +kernel) (by decide +kernel), _, rfl, _, rfl, t, _, _, _, rfl, rfl, s511.sqt hR5.sqt, atI_nat at_i, x, row, z, i, rfl, rk11, hz, fun ws b1 H12 pmw sow s12 hb1 => ?_⟩
        have s512 := s511.trans s12
        have rk12 := rk5.same s512
        obtain ⟨dx12, t12, ts12, th12, hx12, _⟩ := id rk12
        refine ⟨_, rfl, x, dx12, _, rfl, hx12, pf_no t12 ts12 (by decide +kernel) (by decide +kernel), _, rfl, _, rfl, t, _, _, _, rfl, rfl, s512.sqt hR5.sqt, atI_nat at_i, x, row, z, i, rfl, rk12, hz, fun H12' sq => ?_⟩
        replace s512 := s512.trans sq
        replace s12 := s12.trans sq
        replace hb1 := sq.sqt hb1
        refine ⟨(by show 2 ≤ sizeLine; decide), fun D1 nD1 => ?_⟩
        have s513 := s512.new' nD1 (o := .tup [.ref b1, .int (i : Nat)])
        have s1113 := s12.new' nD1 (o := .tup [.ref b1, .int (i : Nat)])
        obtain ⟨e1, e2, e3, e4, e5⟩ := repr_pair (K := K) (a := D1) (j := i) (tup_of upd_same) ((Same.new nD1).sqt hb1) (dok ws pmw).1 (dok ws pmw).2 (by omega)
        refine ⟨D1, _, rfl, e1, e2, e3, e4, e5, ?_⟩
        refine ⟨_, rfl, ?_⟩
        obtain ⟨e1, e2, e3, e4, e5⟩ := repr_pair (K := K) (a := D) (j := i) (s1113.sqt hD) (s1113.sqt hu1) (dok us pmu).1 (dok us pmu).2 (by omega)
        refine ⟨D, _, rfl, e1, e2, e3, e4, e5, ?_⟩
        obtain rfl : ws = us := sorted_one (pmw.trans pmu.symm) sow sou
        refine ⟨rfl, _, rfl, ifF (by simp) ?_⟩
        generalize upd H12' D1 (.tup [.ref b1, .int (i : Nat)]) = H13 at s513 s1113 ⊢
        have rk13 := rk5.same s513
        obtain ⟨dx13, t13, ts13, th13, hx13, _⟩ := id rk13
        refine ⟨_, rfl, x, dx13, _, rfl, hx13, pf_no t13 ts13 (by decide +kernel) (by decide +kernel), _, rfl, _, rfl, t, _, _, _, rfl, rfl, s513.sqt hR5.sqt, atI_nat at_i, rfl, x, row, z, i, rfl, rk13, hz, fun xs b2 H14 pmx sox s14 hb2 => ?_⟩
        have s514 := s513.trans s14
        have rk14 := rk5.same s514
        obtain ⟨dx14, t14, ts14, th14, hx14, _⟩ := id rk14
        refine ⟨_, rfl, x, dx14, _, rfl, hx14, pf_no t14 ts14 (by decide +kernel) (by decide +kernel), _, rfl, _, rfl, t, _, _, _, rfl, rfl, s514.sqt hR5.sqt, atI_nat at_i, rfl, x, row, z, i, rfl, rk14, hz, fun H14' sq => ?_⟩
        replace s514 := s514.trans sq
        replace s14 := s14.trans sq
        replace hb2 := sq.sqt hb2
        refine ⟨(by show 2 ≤ sizeLine; decide), fun D2 nD2 => ?_⟩
        have s515 := s514.new' nD2 (o := .tup [.ref b2, .int (i : Nat)])
        have s1115 := s1113.trans (s14.new' nD2 (o := .tup [.ref b2, .int (i : Nat)]))
        obtain ⟨e1, e2, e3, e4, e5⟩ := repr_pair (K := K) (a := D2) (j := i) (tup_of upd_same) ((Same.new nD2).sqt hb2) (dok xs pmx).1 (dok xs pmx).2 (by omega)
        refine ⟨D2, _, rfl, e1, e2, e3, e4, e5, ?_⟩
        refine ⟨_, rfl, ?_⟩
        obtain ⟨e1, e2, e3, e4, e5⟩ := repr_pair (K := K) (a := D) (j := i) (s1115.sqt hD) (s1115.sqt hu1) (dok ws pmu).1 (dok ws pmu).2 (by omega)
        refine ⟨D, _, rfl, e1, e2, e3, e4, e5, ?_⟩
        obtain rfl : xs = ws := sorted_one (pmx.trans pmu.symm) sox sou
        refine ⟨rfl, _, rfl, ifF (by simp) ?_⟩
        exact ⟨_, _, _, rfl, s515⟩
      · rintro σ H9 ⟨w3, w4, w5, rfl, s59⟩
        have rk9 := rk5.same s59
        obtain ⟨dx9, t9, ts9, th9, hx9, _⟩ := id rk9
        refine ⟨_, rfl, x, dx9, _, rfl, hx9, x, row, rfl, rk9, fun t' ht' => ⟨_, rfl, ?_⟩⟩
        exact eq_strs ht' (s59.sqt hR5.sqt) okr (k _ (sb5.trans (SameB.of s59)))
end
end MH
namespace MH
open PySem PySem.Spec PyProof.Rows L2
theorem _root_.L2.Same.sql {K : PySem.W.Frag} {H H' : Hp} {a : Addr} {xs : List V} (e : Same H H') (h : SqL K H a xs) : SqL K H' a xs := by
  rcases h with (h | ⟨o, h⟩) | h
  · exact .inl (.inl (e _ _ h))
  · exact .inl (.inr ⟨o, e _ _ h⟩)
  · exact .inr h
def spLaw (K : PySem.W.Frag) : Sp := fun vs H Q _ => ∃ (a : Addr) (ns : List Int), vs = [.ref a] ∧ SqL K H a (ns.map V.int) ∧ ns.length ≤ 63 ∧ ∀ H', Q (.bl true) H'
section
variable {P : Program} {w : World} {K : PySem.W.Frag} {mg : Str → Option Value} {base : Heap}
theorem g_law (T : Tx K mg) : FnG P w K mg base 9 T.a_law (spLaw K) := by
  refine fun_g T.F_law sc_law T.b_law (fun vs H Q E h => ?_) (fun cdv A outer s H vs Q hg hr h => ?_)
  · obtain ⟨a, ns, rfl, _⟩ := h
    rfl
  · obtain ⟨a, ns, rfl, hS, hlen, k⟩ := h
    refine ⟨_, (pss_one (ps_ret (pe_callB (cr_all rfl) (by rfl) T.n_all (by decide +kernel) (pa_cons (pe_lc (own := [("_law_spot", 1)]) (g := gName 1) (tt := tYes) rfl sc_law.nd (pi_range1 (by rfl) T.n_range (pa_cons (pe_callB (call_max2 rfl) (by rfl) T.n_max (by decide +kernel) (pa_cons pe_int (pa_cons (pe_callB (call_min2 rfl) (by rfl) T.n_min (by decide +kernel) (pa_cons (pe_callB call_len_seq (by rfl) T.n_len (by decide +kernel) (pa_cons (pv 0) pa_nil)) (pa_cons pe_int pa_nil))) pa_nil))) pa_nil)) (blkOk_by (own := [("_law_spot", 1)]) (N := names_law) (sc := defScope st_law) (by decide +kernel)) (fun _ _ _ _ _ => pg_name (i := 1) sc_law.nd rfl (Or.inl rfl)) (fun _ _ _ _ _ => pts_nil) (fun _ _ _ _ _ => (pe_callg (g_l_right T) hg (hr.mono (by decide)) rfl T.g_l_right T.F_l_right.kp (pa_cons (pe_call (ok_l_purse T) (hr.mono (by decide)) rfl T.g_l_purse T.F_l_purse.kp T.b_l_purse .nil pass0 (pa_cons (pv 0) (pa_cons (pv 1) pa_nil))) pa_nil)))) pa_nil)))), ?_⟩
    have hl : (ns.map V.int).length = ns.length := List.length_map _
    refine ⟨_, rfl, a, _, rfl, .inl hS, _, _, rfl, _, _, rfl, _, rfl, ?_, ?_, fun D nD => lc_range (lo := 0) (n := _) (fun i H' => Same H H' ∧ H' D = some (.lst (List.replicate i (V.bl true)))) ⟨Same.new nD, upd_same⟩ ?_ ?_⟩
    · omega
    · omega
    · rintro i H1 hi ⟨s1, e1⟩
      have hi : i < 100 := by omega
      refine ⟨rfl, ?_⟩
      rw [show (0 : Int) + (i : Int) = ((i : Nat) : Int) from Int.zero_add _]
      refine ⟨_, rfl, _, rfl, a, ns, i, rfl, s1.sql hS, hlen, by omega, fun H2 p s2 np pu => ⟨p, rfl, pu, fun H3 sb => ?_⟩⟩
      have nDp : D ≠ p := fun e => by
        rw [e, np] at e1
        cases e1
      have e3 := sb _ _ nDp (s2 _ _ e1)
      refine ⟨_, e3, lt_line (by rw [List.length_replicate]; omega), fun b o e => ?_, ?_⟩
      · rw [upd_ne (ne_of_none e nD)]
        have h1 := s1 _ _ e
        exact sb _ _ (ne_of_none h1 np) (s2 _ _ h1)
      · rw [upd_same, List.replicate_succ']
    · rintro H1 ⟨s1, e1⟩
      refine ⟨D, List.replicate _ true, rfl, lst_of (by rw [e1, List.map_replicate]), ?_⟩
      have e : ∀ n : Nat, (List.replicate n true).all id = true := fun n => List.all_eq_true.mpr fun b hb => List.eq_of_mem_replicate hb
      rw [e]
      exact k _
end
section
variable {P : Program} {w : World} {K : PySem.W.Frag} {mg : Str → Option Value} {base : Heap}
theorem walk0 {l : PySem.W.OpenLaw} {q : Program} {loose : List Str} {XP : (Str → Option Value) → Heap → Prop} {YP : World → Heap → Prop} {d : DefRec} {K : Params → PySem.W.Frag}
    (hn : l.most = some 63) (hdf : d.params.defaults = []) (hd : d.name = "law") (hY : ∀ (w : World) (h : Heap), YP w h → (K w.params).In h)
    (F : ∀ (w : World) (mg : Str → Option Value) (fa : Addr) (h : Heap), (K w.params).In h → h.Ns mainGlobals mg → mg "law" = some (.ref fa) → ∃ T : Tx (K w.params) mg, T.a_law = fa) : PySem.W.WalkO q loose XP YP l.row.toRowW d [] (fun f vs => PySem.call f vs) := by
  refine walk_g (sp := spLaw) (k := 9) hn (by decide) hdf ⟨rfl, by decide, by decide⟩ hY (fun w mg fa h KX G hmg base hb hg => ?_) fun K H a ns hl hS => ⟨a, ns, rfl, hS, hl, fun _ => rfl⟩
  rw [hd] at hmg
  obtain ⟨T, rfl⟩ := F w mg fa h KX G hmg
  exact g_law T
end
end MH
open PySem PySem.W PyProof.Rows in
set_option maxRecDepth 100000 in
set_option maxHeartbeats 0 in
theorem PySem.Challenge.cw_menuhouses_k05_best_and_below_holds : PySem.Challenge.rw_menuhouses_k05_best_and_below.Holds := by
  w_on; o_law; k_head; (case hw => w_witness2)
  k_fill
  refine MH.walk0 (l := PySem.Challenge.rw_menuhouses_k05_best_and_below) rfl rfl rfl (fun w h Y => PySem.W.kIn_of Y) ?F
  case F =>
    intro w mg fa h KX G hmg
    refine' MH.tx_of KX G hmg ?cg_Ranking ?cp_Ranking ?ch_Ranking ?co_Ranking ?cs_Ranking ?cm_Ranking ?ck_Ranking ?cn_Ranking__row ?cn_Ranking__things ?a_is_index ?l_is_index ?c_is_index ?k_is_index ?a_is_name ?l_is_name ?c_is_name ?k_is_name ?a_is_filled_tuple ?l_is_filled_tuple ?c_is_filled_tuple ?k_is_filled_tuple ?a_is_one_of ?l_is_one_of ?c_is_one_of ?k_is_one_of ?a_first_wrong_in_row ?l_first_wrong_in_row ?c_first_wrong_in_row ?k_first_wrong_in_row ?a_first_wrong_on_menu ?l_first_wrong_on_menu ?c_first_wrong_on_menu ?k_first_wrong_on_menu ?a_index_of ?l_index_of ?c_index_of ?k_index_of ?a_check_row ?l_check_row ?c_check_row ?k_check_row ?a_check_menu ?l_check_menu ?c_check_menu ?k_check_menu ?a_check_thing ?l_check_thing ?c_check_thing ?k_check_thing ?a_RankingD_initD ?i_RankingD_initD ?l_RankingD_initD ?c_RankingD_initD ?k_RankingD_initD ?a_Ranking_row ?pg_Ranking_row ?pt_Ranking_row ?pr_Ranking_row ?l_Ranking_row ?c_Ranking_row ?k_Ranking_row ?a_Ranking_best ?i_Ranking_best ?l_Ranking_best ?c_Ranking_best ?k_Ranking_best ?a_Ranking_below ?i_Ranking_below ?l_Ranking_below ?c_Ranking_below ?k_Ranking_below ?a_Ranking_place ?i_Ranking_place ?l_Ranking_place ?c_Ranking_place ?k_Ranking_place ?a_l_purse ?l_l_purse ?c_l_purse ?k_l_purse ?a_l_draw ?l_l_draw ?c_l_draw ?k_l_draw ?a_l_things ?l_l_things ?c_l_things ?k_l_things ?a_l_order ?l_l_order ?c_l_order ?k_l_order ?a_l_best ?l_l_best ?c_l_best ?k_l_best ?a_l_menus ?l_l_menus ?c_l_menus ?k_l_menus ?a_l_right ?l_l_right ?c_l_right ?k_l_right ?a_law ?l_law ?c_law ?k_law ?v_MOST_THINGS ?v_LETTERS ?v_DIGITS ?v_LONGEST_NAME ?z_len ?z_isinstance ?z_all ?z_enumerate ?z_tuple ?z_sorted ?z_abs ?z_int ?z_divmod ?z_range ?z_list ?z_repr ?z_max ?z_min ?z_str ?z_bool
    (case cg_Ranking => k_is)
    (case cp_Ranking => k_is)
    (case ch_Ranking => k_is)
    (case co_Ranking => k_is)
    (case cs_Ranking => k_is)
    (case cm_Ranking => k_is)
    (case ck_Ranking => k_is)
    (case cn_Ranking__row => k_is)
    (case cn_Ranking__things => k_is)
    (case a_is_index => k_is)
    (case l_is_index => k_is)
    (case c_is_index => k_is)
    (case k_is_index => k_is)
    (case a_is_name => k_is)
    (case l_is_name => k_is)
    (case c_is_name => k_is)
    (case k_is_name => k_is)
    (case a_is_filled_tuple => k_is)
    (case l_is_filled_tuple => k_is)
    (case c_is_filled_tuple => k_is)
    (case k_is_filled_tuple => k_is)
    (case a_is_one_of => k_is)
    (case l_is_one_of => k_is)
    (case c_is_one_of => k_is)
    (case k_is_one_of => k_is)
    (case a_first_wrong_in_row => k_is)
    (case l_first_wrong_in_row => k_is)
    (case c_first_wrong_in_row => k_is)
    (case k_first_wrong_in_row => k_is)
    (case a_first_wrong_on_menu => k_is)
    (case l_first_wrong_on_menu => k_is)
    (case c_first_wrong_on_menu => k_is)
    (case k_first_wrong_on_menu => k_is)
    (case a_index_of => k_is)
    (case l_index_of => k_is)
    (case c_index_of => k_is)
    (case k_index_of => k_is)
    (case a_check_row => k_is)
    (case l_check_row => k_is)
    (case c_check_row => k_is)
    (case k_check_row => k_is)
    (case a_check_menu => k_is)
    (case l_check_menu => k_is)
    (case c_check_menu => k_is)
    (case k_check_menu => k_is)
    (case a_check_thing => k_is)
    (case l_check_thing => k_is)
    (case c_check_thing => k_is)
    (case k_check_thing => k_is)
    (case a_RankingD_initD => k_is)
    (case i_RankingD_initD => k_is)
    (case l_RankingD_initD => k_is)
    (case c_RankingD_initD => k_is)
    (case k_RankingD_initD => k_is)
    (case a_Ranking_row => k_is)
    (case pg_Ranking_row => k_is)
    (case pt_Ranking_row => k_is)
    (case pr_Ranking_row => k_is)
    (case l_Ranking_row => k_is)
    (case c_Ranking_row => k_is)
    (case k_Ranking_row => k_is)
    (case a_Ranking_best => k_is)
    (case i_Ranking_best => k_is)
    (case l_Ranking_best => k_is)
    (case c_Ranking_best => k_is)
    (case k_Ranking_best => k_is)
    (case a_Ranking_below => k_is)
    (case i_Ranking_below => k_is)
    (case l_Ranking_below => k_is)
    (case c_Ranking_below => k_is)
    (case k_Ranking_below => k_is)
    (case a_Ranking_place => k_is)
    (case i_Ranking_place => k_is)
    (case l_Ranking_place => k_is)
    (case c_Ranking_place => k_is)
    (case k_Ranking_place => k_is)
    (case a_l_purse => k_is)
    (case l_l_purse => k_is)
    (case c_l_purse => k_is)
    (case k_l_purse => k_is)
    (case a_l_draw => k_is)
    (case l_l_draw => k_is)
    (case c_l_draw => k_is)
    (case k_l_draw => k_is)
    (case a_l_things => k_is)
    (case l_l_things => k_is)
    (case c_l_things => k_is)
    (case k_l_things => k_is)
    (case a_l_order => k_is)
    (case l_l_order => k_is)
    (case c_l_order => k_is)
    (case k_l_order => k_is)
    (case a_l_best => k_is)
    (case l_l_best => k_is)
    (case c_l_best => k_is)
    (case k_l_best => k_is)
    (case a_l_menus => k_is)
    (case l_l_menus => k_is)
    (case c_l_menus => k_is)
    (case k_l_menus => k_is)
    (case a_l_right => k_is)
    (case l_l_right => k_is)
    (case c_l_right => k_is)
    (case k_l_right => k_is)
    (case a_law => k_is)
    (case l_law => k_is)
    (case c_law => k_is)
    (case k_law => k_is)
    (case v_MOST_THINGS => k_is)
    (case v_LETTERS => k_is)
    (case v_DIGITS => k_is)
    (case v_LONGEST_NAME => k_is)
    (case z_len => k_is)
    (case z_isinstance => k_is)
    (case z_all => k_is)
    (case z_enumerate => k_is)
    (case z_tuple => k_is)
    (case z_sorted => k_is)
    (case z_abs => k_is)
    (case z_int => k_is)
    (case z_divmod => k_is)
    (case z_range => k_is)
    (case z_list => k_is)
    (case z_repr => k_is)
    (case z_max => k_is)
    (case z_min => k_is)
    (case z_str => k_is)
    (case z_bool => k_is)
