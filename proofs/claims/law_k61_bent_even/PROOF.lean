import PyProof.Rows.All
import Wide.All
import OpenK.AllK
import Wide.FinOn
import KE.KStateDown
import Lean
import HandS.ForMost
import HandS.More
import HandS.Conv
import HandS.Flow
import HandS.Style
import HandS.Strs
import HandS.Codes
import HandS.SetFor
import HandS.TupSets
import HandS.SortRule
import HandS.SortInts
import HandS.TupLe
import HandS.TupAny
import HandS.IsInst
import HandS.RevTup
import HandS.Rev
import HandS.Zip
import KE.GoesEnum
import KE.GoesMore
import KE.GoesZip
import KE.KDictZip
import KE.GoesEnumKw
import HandS.Walk
import HandS.SetKeys
import HandS.Defaults
import HandS.Wide
import HandS.Lambda
import HandS.GenOver
import HandS.DictComp
import HandS.AnyAll
import HandS.RevRange
import HandS.Head0
import HandS.Head1
import HandS.Head2
import HandS.HeadEnd
import HandS.HeadHook1
import HandS.HeadHook2
import HandS.HeadHook3
import HandS.HeadHook4
import HandS.EndTab
import HandS.HeadWalk
import KE.DatumOrd
import HandS.TupMul
import KE.KTupSum
import HandS.SetBool
import HandS.ExcIs
import HandS.TryMany
import HandS.TryOnly
import HandS.ExcOwn
import HandS.Exc
import KE.SortData
import KE.SortKeyHeap
import HandS.Deep
import HandS.HotCalls
import HandS.SortKw
import PySem.Challenge.RW_fewforests_k61_bent_even
set_option Elab.async false
set_option linter.all false
set_option maxRecDepth 100000
set_option maxHeartbeats 0
namespace FF
open PySem PySem.Spec PyProof.Rows L2
/-- which tables of code objects are those of defs with a lambda (told when the text's end is reached) -/
class LT where
  lam : Addr → Bool
end FF
namespace FF
open PySem PySem.Spec PyProof.Rows L2
variable [LT]
/-! ### list(reversed(xs)) -/
section
variable {prog : Program} {w : World} {A : Around} {E : Value → Shared → Prop} {s : Shared}
theorem extRev {itr src : Addr} {its : Array Value} {R : Result → Shared → Prop} (calm : A.handled = none) (S : Addr) (res : Value) (c0 : Nat)
    (hS : s.heap.get? S = some { cls := .type "list", data := .seq #[] c0 }) (hit : s.heap.IsRevIter itr src ((its.size : Int) - 1)) (hl : s.heap.IsList src its) (hne : src ≠ itr) (hSi : S ≠ itr) (hSl : S ≠ src) (hn : its.size ≤ sizeLine)
    (fin : ∀ h' tk acc c, (∀ b o, b ≠ itr → b ≠ S → s.heap.get? b = some o → h'.get? b = some o) → h'.get? S = some { cls := .type "list", dict := none, data := .seq acc c, slots := #[] } →
      ItemsOf (fun i v => its[its.size - 1 - i]? = some v) acc its.size → R (.ok (.ret res)) { s with heap := h', toks := tk }) :
    wpAny (model prog w) A.in1 (Builtin.List.listExtendWith (.ref S) (.ref itr) res)
      (fun f s' => match f with | .done z => R (.ok z) s' | .again c' => c'.quiet = true ∧ codeAny (model prog w) A c' R s') (fun e s' => R (.error e) s') s := by
  have W := (Walks.listRev (prog := prog) (w := w) (A := A.in1) calm itr src hne its).toS
  have hT : s.TypeIs (.ref itr) "list_reverseiterator" := hit.typeIs
  have h1 : Builtin.List.listSameRef (.ref S) (.ref itr) = false := by simp [Builtin.List.listSameRef, hSi]
  unfold Builtin.List.listExtendWith
  refine wpAny_bind (wpAny_typeOf hT ?_)
  rw [if_neg (by rw [h1]; decide)]
  refine wpAny_bind (wpAny_pyIter_revIter hit ?_)
  refine wpAny_bind (wpAny_holding ?_)
  unfold Builtin.List.listLengthHint
  refine wpAny_bind (wpAny_specialOf hT RT.nolen_lri ?_)
  show wpAny _ A.in1 (specialOf (Value.ref itr) (Str.ofString "__length_hint__") >>= _) _ _ _
  refine wpAny_bind (wpAny_specialOf hT RT.hint_lri ?_)
  generalize hid : ("list_reverseiterator.__length_hint__" : String) = hint
  wp_delta
  rw [show splitId hint = some ("list_reverseiterator", "__length_hint__") from by subst hid; decide +kernel]
  subst hid
  refine wpAny_bind (wpAny_isInstance (b := true) hT (by rw [isSubtype_type]; kernel_rfl) ?_)
  refine wpAny_pure ?_
  rw [if_neg (by decide)]
  have e0 : ((its.size : Nat) : Int) - 1 - ((0 : Nat) : Int) = (its.size : Int) - 1 := by omega
  have hSf : S ∉ [itr, src] := by simp only [List.mem_cons, List.not_mem_nil, or_false, not_or]; exact ⟨hSi, hSl⟩
  refine wpAny_pure ⟨plainId_quiet F.plain_extend_loop _, codeAny_extend_loopS W hn S hSf _ its.size 0 _ _ _ rfl (Nat.zero_le _) ⟨Nat.zero_le _, by rw [e0]; exact hit, hl⟩ hS (ItemsOf.nil _) fun s' acc c hm hS' hacc => ?_⟩
  rw [Moved.eq_with hm]
  refine fin s'.heap s'.toks acc c (fun b o hb hb2 e => hm.heap b o (fun z => ?_) e) hS' hacc
  rcases List.mem_cons.mp z with z | z
  · exact hb2 z
  · exact hb (List.mem_singleton.mp z)
theorem initRev {itr src : Addr} {its : Array Value} {R : Result → Shared → Prop} (calm : A.handled = none) (S : Addr)
    (hS : s.heap.get? S = some { cls := .type "list", data := .seq #[] }) (hit : s.heap.IsRevIter itr src ((its.size : Int) - 1)) (hl : s.heap.IsList src its) (hne : src ≠ itr) (hSi : S ≠ itr) (hSl : S ≠ src) (hn : its.size ≤ sizeLine)
    (fin : ∀ h' tk acc c, (∀ b o, b ≠ itr → b ≠ S → s.heap.get? b = some o → h'.get? b = some o) → h'.get? S = some { cls := .type "list", dict := none, data := .seq acc c, slots := #[] } →
      ItemsOf (fun i v => its[its.size - 1 - i]? = some v) acc its.size → R (.ok (.ret .none)) { s with heap := h', toks := tk }) :
    wpAny (model prog w) A.in1 (Builtin.«list.__init__» ⟨[.ref S, .ref itr], []⟩)
      (fun f s' => match f with | .done z => R (.ok z) s' | .again c' => c'.quiet = true ∧ codeAny (model prog w) A c' R s') (fun e s' => R (.error e) s') s := by
  show wpAny _ _ (do let old ← Builtin.List.listItems (.ref S); Builtin.List.listUpdate (.ref S) (fun _ => #[]); letGo old.toList.reverse; Builtin.List.listExtendWith (.ref S) (.ref itr) .none) _ _ s
  refine wpAny_bind ?_
  unfold Builtin.List.listItems
  refine wpAny_bind (wpAny_seqItems hS rfl (wpAny_pure ?_))
  show wpAny _ _ (updateSeq S (fun _ => #[]) >>= fun _ => letGo (#[] : Array Value).toList.reverse >>= fun _ => Builtin.List.listExtendWith (.ref S) (.ref itr) .none) _ _ s
  refine wpAny_bind (wpAny_updateSeq hS rfl ?_)
  have hS2 := Heap.get?_update_self (Obj.mapSeq (fun _ => (#[] : Array Value))) hS rfl
  have oth : ∀ b o, b ≠ S → s.heap.get? b = some o → (s.heap.update S (Obj.mapSeq (fun _ => (#[] : Array Value)))).get? b = some o :=
    fun b o hb e => (Heap.get?_update_other _ _ (Ne.symm hb)).trans e
  refine wpAny_bind (wpAny_letGo ?_)
  obtain ⟨oi, hoi, ri⟩ := hit
  obtain ⟨ol, hol, rl⟩ := hl
  refine extRev (its := its) calm S .none _ hS2 ⟨oi, oth _ _ (Ne.symm hSi) hoi, ri⟩ ⟨ol, oth _ _ (Ne.symm hSl) hol, rl⟩ hne hSi hSl hn fun h' tk acc c hk hS' hacc => ?_
  exact fin h' tk acc c (fun b o hb hb2 e => hk b o hb hb2 (oth b o hb2 e)) hS' hacc
theorem listRev {itr src : Addr} {its : Array Value} {Q : Value → Shared → Prop} (calm : A.handled = none) (hit : s.heap.IsRevIter itr src ((its.size : Int) - 1)) (hl : s.heap.IsList src its) (hne : src ≠ itr) (hn : its.size ≤ sizeLine)
    (fin : ∀ h' tk acc c, (∀ b o, b ≠ itr → s.heap.get? b = some o → h'.get? b = some o) → h'.get? s.heap.objs.size = some { cls := .type "list", dict := none, data := .seq acc c, slots := #[] } →
      ItemsOf (fun i v => its[its.size - 1 - i]? = some v) acc its.size → Q (.ref s.heap.objs.size) { s with heap := h', toks := tk }) :
    wpAny (model prog w) A (call (.type "list") [.ref itr]) Q E s := by
  refine callType_codes (Q₁ := fun obj t => obj = .ref s.heap.objs.size ∧ t = { s with heap := s.heap.push { cls := .type "list", data := .seq #[] } }) F.called_list (F.typeCall_list_1 _) F.entry_list_init
    (code_list_new _ ⟨rfl, rfl⟩) fun obj t ht => ?_
  obtain ⟨rfl, rfl⟩ := ht
  have hS : (s.heap.push { cls := .type "list", data := .seq #[] }).get? s.heap.objs.size = some { cls := .type "list", data := .seq #[] } := Heap.get?_push_size _ rfl
  obtain ⟨oi, hoi, ri⟩ := hit
  obtain ⟨ol, hol, rl⟩ := hl
  refine ⟨⟨_, hS, rfl⟩, F.args_list_init_2 _ _, initRev (its := its) (A := A.in1) calm _ hS ⟨oi, Heap.get?_push_of_some _ hoi, ri⟩ ⟨ol, Heap.get?_push_of_some _ hol, rl⟩ hne (Nat.ne_of_gt (Heap.lt_size hoi)) (Nat.ne_of_gt (Heap.lt_size hol)) hn fun h' tk acc c hk hS' hacc => ?_⟩
  exact ⟨rfl, fin h' tk acc c (fun b o hb e => hk b o hb (Nat.ne_of_lt (Heap.lt_size e)) (Heap.get?_push_of_some _ e)) hS' hacc⟩
end
section
variable {X : Cx}
def tLstRev (K : PySem.W.Frag) (te : TE) : TE := fun σ H Q => te σ H fun v H1 => ∃ (a : Addr) (xs : List V), v = .ref a ∧ SqL K H1 a xs ∧ ∀ q, H1 q = none → Q (.ref q) (upd H1 q (.lst xs.reverse))
theorem pe_listRev {e : Expr} {te : TE} {p p2 pos pos2 : Pos} (hc : X.calm = true) (hg : Gl X "list") (hm : X.mg "list" = none) (hg2 : Gl X "reversed") (hm2 : X.mg "reversed" = none) (he : PE X e te)
    (hs : starEach [e] X.env = (false, eval e X.env) :: starEach [] X.env := by rfl)
    (hs2 : starEach [.Call (.Name "reversed" p2) [e] [] pos2] X.env = (false, eval (.Call (.Name "reversed" p2) [e] [] pos2) X.env) :: starEach [] X.env := by rfl) :
    PE X (.Call (.Name "list" p) [.Call (.Name "reversed" p2) [e] [] pos2] [] pos) (tLstRev X.K te) := by
  refine ⟨fun pins s σ H Q I h => ?_⟩
  refine Call_ (ld_blt I hg hm boot_list (PyProof.Rows.callWith_type1 (args_cons (Call_ (ld_blt I hg2 hm2 PyProof.Rows.boot_reversed (PyProof.Rows.callWith_type1 (args_cons (thn (he.run pins s σ H _ I h) fun u s1 ⟨v, H1, I1, r1, q1⟩ => args_nil ?_) hs) hs rfl))) hs2) hs2 rfl))
  obtain ⟨a, xs, ev, hq, q⟩ := q1
  subst ev
  obtain rfl : u = Value.ref a := r1
  obtain ⟨its, rv, pl, hz⟩ := I1.list hq
  refine call_reversed_list pl.isList (args_nil ?_)
  have I2 : Inv X pins σ H1 { s1 with heap := s1.heap.push (revObj a ((its.toArray.size : Int) - 1)) } := I1.kept (t' := s1.toks) fun b o e => Heap.get?_push_of_some _ e
  obtain ⟨f0, f1, f2, f3, f4, f5⟩ := I1.fpOk (H' := H1) (b := s1.heap.objs.size) (Nat.le_refl _) (I1.hok.fresh (Nat.le_refl _))
  have hl := pl.isList
  obtain ⟨ol, hol, _⟩ := id hl
  have hn : its.toArray.size ≤ sizeLine := by rw [List.size_toArray, ← rv.length]; exact hz
  refine listRev (s := { s1 with heap := s1.heap.push (revObj a ((its.toArray.size : Int) - 1)) }) (I1.ok.hd hc) ⟨_, Heap.get?_push_size _ rfl, rfl, rfl⟩ (hl.push _) (Nat.ne_of_lt (Heap.lt_size hol)) hn fun h' tk acc c hk hS hi => ?_
  have hfr : H1 (s1.heap.push (revObj a ((its.toArray.size : Int) - 1))).objs.size = none := I2.hok.fresh (Nat.le_refl _)
  have J := I2.step (H' := upd H1 (s1.heap.push (revObj a ((its.toArray.size : Int) - 1))).objs.size (.lst xs.reverse)) (h' := h') (g' := s1.gens) (d' := s1.drawn) (t' := tk) (ch := [s1.heap.objs.size])
    (fun b hb => by rw [List.mem_singleton.mp hb]; exact ⟨f3, f1, f4, f5⟩)
    (fun b o _ _ hc e _ => hk b o (fun z => hc (by rw [z]; exact List.mem_singleton.mpr rfl)) e)
    (fun b o _ _ hc e _ => ⟨o.slots, hk b o (fun z => hc (by rw [z]; exact List.mem_singleton.mpr rfl)) e⟩)
    (fun b o _ e n => by rw [upd_ne (Nat.ne_of_lt (Heap.lt_size e))]; exact n)
    (fun b o hc e => ⟨o, hk b o (fun z => hc (by rw [z]; exact List.mem_singleton.mpr rfl)) e⟩)
    (fun b ys e => by rw [upd_ne (ne_of_none e hfr)]; exact e) (fun b o ys e => by rw [upd_ne (ne_of_none e hfr)]; exact e) (fun b ps e => ⟨#[], by rw [upd_ne (ne_of_none e hfr), e]; simp⟩)
    (fun m hm => by
      obtain ⟨o, es, ep, ho, r⟩ := hm
      exact ⟨o, es, ep, hk _ o (Ne.symm f1) ho, r⟩)
    (fun b u e => by
      by_cases hb : b = (s1.heap.push (revObj a ((its.toArray.size : Int) - 1))).objs.size
      · rw [hb, upd_same] at e
        cases e
        rw [hb]
        exact ⟨by rw [List.length_reverse]; exact hz, acc.toList, c, RT.vals_rev rv hi, by rw [Array.toArray_toList]; exact hS⟩
      · rw [upd_ne hb] at e
        refine (I2.hok b u e).stay (fun d v hd q => hk d v ?_ q) (fun d q => by rw [upd_ne (ne_of_none q hfr)]; exact q) fun d ys q => by rw [upd_ne (ne_of_none q hfr)]; exact q
        rcases hd with rfl | hd
        · exact fun z => by rw [z, f0] at e; cases e
        · exact fun z => by rw [z, f0] at hd; cases hd) I2.bare
  exact ⟨.ref _, _, J, rfl, q _ hfr⟩
end
end FF
namespace FF
open PySem PySem.Spec PyProof.Rows L2
variable [LT]
/-! ### len(set(xs)), sorted(set(xs)) of ints -/
def nub (ns : List Int) : List Int := ns.foldl step_dedup []
section
variable {X : Cx}
end
section
variable {P : Program} {w : World} {A : Around} {E : Value → Shared → Prop} {s : Shared}
abbrev emptySet (w : World) : Obj := { cls := .type "set", dict := none, data := .set #[] 0 (.fresh 0 0 (!w.params.followText "set-order")) }
set_option maxHeartbeats 3200000 in
theorem setOfList {l : Addr} {its : Array Value} (ns : List Int) {Q : Value → Shared → Prop} (calm : A.handled = none) (hl : s.heap.IsList l its) (hit : IntsAre its.toList ns) (hb : ns.length + 1 < scanBound)
    (fin : ∀ (h' : Heap) (tk c : Nat), SetR w h' s.heap.objs.size (fun j => decide (j ∈ ns)) c → c ≤ ns.length → (∀ b o, s.heap.get? b = some o → h'.get? b = some o) → Q (.ref s.heap.objs.size) { s with heap := h', toks := tk }) :
    wpAny (model P w) A (call (.type "set") [.ref l]) Q E s := by
  have hsz : its.size = ns.length := by
    have q := IntsAre.length hit
    rw [Array.length_toList] at q
    exact q
  obtain ⟨cm, tl, hmro⟩ := F.called_set.mro
  have hmade := F.called_set.made
  have hsub := F.called_set.sub
  refine wpAny_call (codeAny_of_tree ?_)
  show wpAny _ _ (callAny (.type "set") _) _ _ _
  refine wpAny_pure ⟨Code.quiet_builtin _ (by decide +kernel), codeAny_builtin F.entry_type_call ?_⟩
  rw [Around.under_plain (weight_type_call_type "set" [.ref l] []) rfl]
  have h1 := F.called_set.notType
  have h2 := F.called_set.canCreate
  have hct := F.typeCall_set_1 (.ref l)
  repeat (any_goals (first | assumption | wp_step))
  refine codeAny_mono (code_set_led1 (.ref l) (E := E) (Q₁ := fun obj t => obj = .ref s.heap.objs.size ∧ t = { s with heap := s.heap.push (emptySet w) }) ⟨rfl, rfl⟩) fun r t hr => ?_
  cases r with
  | error e => exact hr
  | ok fl =>
    cases fl with
    | ret obj =>
      obtain ⟨rfl, rfl⟩ := hr
      have hS : (s.heap.push (emptySet w)).get? s.heap.objs.size = some (emptySet w) := Heap.get?_push_size _ rfl
      have hT : Shared.TypeIs { s with heap := s.heap.push (emptySet w) } (.ref s.heap.objs.size) "set" := ⟨_, hS, rfl⟩
      have hli := F.called_set.init.lookup
      have hbi := F.called_set.init.bind (.ref s.heap.objs.size)
      repeat (any_goals (first | assumption | wp_step))
      refine codeAny_mono (codeAny_call_builtin (R := wants (fun r t => r = .none ∧ ∃ h' tk c, t = { s with heap := h', toks := tk } ∧ SetR w h' s.heap.objs.size (fun j => decide (j ∈ ns)) c ∧ c ≤ ns.length ∧
          (∀ b o, s.heap.get? b = some o → h'.get? b = some o)) E) F.called_set.init.plain F.entry_set_init (check_set_init_1 hT ?_)) fun r2 s2 hr2 => ?_
      · obtain ⟨ol, hol, hcl, nl, hdl⟩ := hl
        obtain ⟨ocls, odict, odata, oslots⟩ := ol
        simp only at hcl hdl
        subst hcl; subst hdl
        have hol1 : (s.heap.push (emptySet w)).get? l = some { cls := .type "list", dict := odict, data := .seq its nl, slots := oslots } := Heap.get?_push_of_some _ hol
        have hsls := F.sub_list_set
        have hslf := F.sub_list_frozenset
        have hne : (Value.type "list" == Value.type "dict") = false := by decide
        have hl1 : (s.heap.push (emptySet w)).IsList l its := ⟨_, hol1, rfl, nl, rfl⟩
        unfold Builtin.«set.__init__» noKeywords Builtin.Frozenset.updateFrom
        generalize hPI : pyIter = PI
        wp_walk
        subst hPI
        refine wpAny_pyIter_list hl1 ?_
        refine wpAny_bind (wpAny_runValue ?_)
        have hlS : l < s.heap.objs.size := Heap.lt_size hol
        have hh3 : A.in1.in1.in1.handled = none := by simp [calm]
        have hneI : l ≠ (s.heap.push (emptySet w)).objs.size := by
          rw [Heap.size_push]; exact Nat.ne_of_lt (Nat.lt_succ_of_lt hlS)
        have hSf : s.heap.objs.size ∉ [(s.heap.push (emptySet w)).objs.size, l] := by
          rw [Heap.size_push]; simp only [List.mem_cons, List.mem_singleton, List.not_mem_nil, or_false, not_or]
          exact ⟨Nat.ne_of_lt (Nat.lt_succ_self _), Nat.ne_of_gt hlS⟩
        have hval : ∀ (i : Nat) (v : Value), its[i]? = some v → ∃ k t, ns[i]? = some k ∧ v = .int k t := fun i v hv => by
          have hi : i < ns.length := by rw [← hsz]; exact (Array.getElem?_eq_some_iff.mp hv).1
          obtain ⟨t, e⟩ := PyProof.Rows.IntsAre.int_at hit i v (by rw [Array.getElem?_toList]; exact hv)
          refine ⟨ns[i], t, List.getElem?_eq_getElem hi, ?_⟩
          rw [e, List.getD_eq_getElem?_getD, List.getElem?_eq_getElem hi] <;> rfl
        refine set_update_ints ((Walks.list hh3 _ l hneI its).toS) s.heap.objs.size
          hSf ns hsz hb hval (its.size - 0) 0 _ (by omega) (Nat.zero_le _)
          ⟨⟨_, Heap.get?_push_size _ rfl, rfl, rfl⟩, (hl1.push _)⟩ ?hS0 ?hR
        case hS0 => exact ⟨0, Nat.le_refl 0, setR_new_at (Heap.get?_push_of_some _ hS)⟩
        case hR =>
          intro t' c' hm hc' hS'
          obtain ⟨h', g2, d', tk', os'⟩ := t'
          have eg : g2 = s.gens := hm.gens
          have ed : d' = s.drawn := hm.drawn
          have eo : os' = s.os := hm.os
          subst eg; subst ed; subst eo
          show wpAny _ _ _ _ _ _
          refine wpAny_pure ?_
          show wpAny _ _ (ret Value.none) _ _ _
          rw [hsz] at hc'
          refine wpAny_pure ⟨rfl, h', tk', c', rfl, hS', hc', fun b o e => ?_⟩
          have hb0 : b < s.heap.objs.size := Heap.lt_size e
          have hb2 : b ≠ (s.heap.push (emptySet w)).objs.size := by
            rw [Heap.size_push]; exact Nat.ne_of_lt (Nat.lt_succ_of_lt hb0)
          exact hm.heap b o (by simp only [List.mem_cons, List.mem_singleton, List.not_mem_nil, or_false, not_or]; exact ⟨Nat.ne_of_lt hb0, hb2⟩) (Heap.get?_push_of_some _ (Heap.get?_push_of_some _ e))
      · cases r2 with
        | error e => exact hr2
        | ok fl2 =>
          cases fl2 with
          | ret r =>
            obtain ⟨rfl, h', tk, c', rfl, hS', hc', hk'⟩ := hr2
            repeat (any_goals (first | assumption | wp_step))
            exact fin _ _ _ hS' hc' hk'
          | _ => exact hr2.elim
    | _ => exact hr.elim
end
section
variable {X : Cx}
/-- set(xs), xs a list of ints -/
def rSetL (K : PySem.W.Frag) (w : World) : List V → Hp → VK → Prop := fun xs H Q => ∃ (l : Addr) (ns : List Int), xs = [V.ref l] ∧ SqL K H l (ns.map V.int) ∧ ns.length ≤ 1000 ∧
  ∀ p c, H p = none → c ≤ ns.length → Q (.ref p) (upd H p (SetO w p (fun j => decide (j ∈ ns)) c))
theorem cr_setL (hc : X.calm = true) : CallR X (.type "set") (rSetL X.K X.w) := by
  intro pins s σ H xs us Q I r h
  obtain ⟨l, ns, rfl, hl, hb, q⟩ := h
  rw [Vals.ref1 r]
  obtain ⟨its, rv, pl, hz⟩ := I.list hl
  refine setOfList (P := X.prog) (w := X.w) ns (I.ok.hd hc) pl.isList (by simpa using RZ.intsAre_vals rv) (by unfold scanBound; omega) fun h' tk c R hcn k => ?_
  exact ⟨.ref s.heap.objs.size, _, I.laid (t' := tk) k (Nat.le_refl _) (setO_new R), rfl, q _ c (I.hok.fresh (Nat.le_refl _)) hcn⟩
end
end FF
namespace FF
open PySem PySem.Spec PyProof.Rows L2
variable [LT]
/-! ### generator expressions: a turn, the frame, the protocol -/
section
variable {α : Type}
/-- what a generator expression is made of: its syntax, its frame's context, its iterator, the consumer's objects and what they hold -/
structure GxD (α : Type) where
  Z : Cx
  elt : Expr
  tg : Expr
  iter : Expr
  ifs : List Expr
  scope : Scope
  pos : Pos
  it : Addr
  fp : List Addr
  tn : Nat → Heap → Prop
  J : It
  prot : List Addr
  Acc : α → Heap → Prop
  W : Nat → Nat → α → Hp → Prop
  Yl : α → V → Hp → (α → Hp → Prop) → Prop
  Dn : α → Hp → Prop
  σ0 : L2.St
  vs : List Nat
abbrev GxD.expr (D : GxD α) : Expr := .GeneratorExp D.elt [⟨D.tg, D.iter, D.ifs, 0⟩] D.scope D.pos
abbrev GxD.loop (D : GxD α) : Code := .compLoop D.expr 0 (.ref D.it) .none D.Z.env
abbrev GxD.begin (D : GxD α) : Code := .compStart D.expr 0 (.ref D.it) .none D.Z.env
/-- the frame's invariant, the consumer's objects pinned as they stand -/
def GxD.Inv (D : GxD α) (pins : List (Addr × Obj)) (H : Hp) (s : Shared) : Prop :=
  pins.map (·.1) = D.prot ∧ L2.Inv D.Z pins D.σ0 H s ∧ ∀ b ∈ D.fp, FpOk D.Z pins H b
def GxD.Y (D : GxD α) : Protocol := fun _ s₀ v s kap => ∃ (i : Nat) (a : α) (pins : List (Addr × Obj)) (H : Hp) (x : V) (Nx : α → Hp → Prop),
  RelV x v ∧ s₀.gens.size ≤ s.gens.size ∧ D.Acc a s₀.heap ∧ (∀ p ∈ pins, s₀.heap.get? p.1 = some p.2) ∧ D.Inv pins H s ∧ D.tn (i + 1) s.heap ∧ D.Yl a x H Nx ∧
  ∀ (s' : Shared) (pins' : List (Addr × Obj)) (H' : Hp) (a' : α), D.Inv pins' H' s' → D.tn (i + 1) s'.heap → D.Acc a' s'.heap → Nx a' H' → kap (.send .none) s'
def GxD.P (D : GxD α) : Nat → Shared → Shared → Prop := fun _ s₀ s => ∃ (a : α) (pins : List (Addr × Obj)) (H : Hp),
  D.Acc a s₀.heap ∧ (∀ p ∈ pins, s₀.heap.get? p.1 = some p.2) ∧ D.Inv pins H s ∧ D.Dn a H
abbrev GxD.R (D : GxD α) : GenEnd := fun n s₀ r s => r = .ok .next ∧ D.P n s₀ s
/-- the syntax keeps to its rules; what a turn does -/
structure GxD.Ok (D : GxD α) (g : TG) (tt : TT) (te : TE) : Prop where
  calm : D.Z.calm = true
  xe : D.Z.xe = fun _ _ => False
  co : D.Z.env.scope.isCoroutine = false
  turn : Turn D.Z.prog D.Z.w D.Z.K D.tg D.J D.fp D.it D.tn
  pg : PG D.Z D.tg g
  pt : PTs D.Z D.ifs tt
  pe : PE D.Z D.elt te
  step : ∀ i m a H, D.W i m a H → (D.J.stop i H ∧ D.Dn a H) ∨ (D.J.go i H ∧ ∃ Nx : α → Hp → Prop, (∀ a' H', Nx a' H' → ∃ m', m' < m ∧ D.W (i + 1) m' a' H') ∧
    ∀ x H1, D.J.yld i H x H1 → g x D.σ0 H1 fun σ2 H2 => wipe σ2 D.vs = D.σ0 ∧ tt σ2 H2 fun b H3 => if b = true then te σ2 H3 fun y H4 => D.Yl a y H4 Nx else Nx a H3)
theorem gx_seg {D : GxD α} {g : TG} {tt : TT} {te : TE} (ok : D.Ok g tt te) {A : Around} (hA : A.over D.loop [] = D.Z.A) :
    ∀ (m i n : Nat) (s₀ s : Shared) (pins : List (Addr × Obj)) (H : Hp) (a : α), m < n → s₀.gens.size ≤ s.gens.size → D.Inv pins H s → D.tn i s.heap → D.Acc a s₀.heap → (∀ p ∈ pins, s₀.heap.get? p.1 = some p.2) → D.W i m a H →
      Seg (model D.Z.prog D.Z.w) A D.R D.Y n s₀ D.loop ((model D.Z.prog D.Z.w).den D.loop) [] s := by
  intro m
  induction m using Nat.strongRecOn with
  | _ m ih =>
    intro i n s₀ s pins H a hmn hz GI ht hacc hp0 hw
    obtain ⟨hpr, I, hf⟩ := GI
    have T := ok.turn
    show Seg _ A _ _ _ s₀ _ ((compTurn D.expr 0 (.ref D.it) .none D.Z.env).onRaise (leaving D.Z.env)) [] s
    rw [compTurn_gen, Sem.onRaise_eq_wrap]
    refine seg_bind_wrap (wpAny_standAt ?_)
    rcases ok.step i m a H hw with ⟨stop, dn⟩ | ⟨go, Nx, hNx, st⟩
    · refine seg_bind_wrap ?_
      rw [hA]
      refine thnF (T.done D.Z rfl rfl rfl ok.calm i pins s D.σ0 H (fun _ _ => False) I hf ht stop) fun r t ⟨hr, J⟩ => ?_
      subst hr
      exact seg_end (.ok .next) ⟨rfl, a, pins, H, hacc, hp0, ⟨hpr, J, hf⟩, dn⟩
    · refine seg_bind_wrap ?_
      rw [hA]
      refine GenW.wpAny_gsz hz (thnF (T.item D.Z rfl rfl rfl ok.calm i pins s D.σ0 H (fun _ _ => False) I hf ht go) fun r t ⟨u, hr, h1⟩ z0 => ?_)
      subst hr
      refine seg_bind_wrap ?_
      rw [hA]
      refine GenW.wpAny_gsz z0 (thnF h1 fun _ t1 ⟨x, H1, I1, r1, y1, tn1, n1⟩ z1 => ?_)
      have f1 : ∀ b ∈ D.fp, FpOk D.Z pins H1 b := fun b hb => ⟨n1 b hb, (hf b hb).2⟩
      have I1p := I1.pinned f1 (T.obj _ _ tn1)
      have hpg := ok.pg.run _ t1 D.σ0 H1 x u _ I1p r1 (st x H1 y1)
      rw [ok.xe] at hpg
      refine seg_bind_wrap ?_
      rw [hA]
      refine GenW.wpAny_gsz z1 (thnF hpg fun _ t2 ⟨σ2, H2, I2, w2, q2⟩ z2 => ?_)
      have hpt := ok.pt.run _ t2 σ2 H2 _ I2 q2
      rw [ok.xe] at hpt
      refine seg_bind_wrap ?_
      rw [hA]
      refine GenW.wpAny_gsz z2 (thnF hpt fun b t3 ⟨H3, I3, q3⟩ z3 => ?_)
      -- what holds at the turn's end
      have fin : ∀ {t' : Shared} {H' : Hp}, L2.Inv D.Z (pins ++ pinsAt D.fp t1.heap) σ2 H' t' → D.Inv pins H' t' ∧ D.tn (i + 1) t'.heap := fun {t' H'} J => by
        have pin' : ∀ b ∈ D.fp, ∀ o, t1.heap.get? b = some o → t'.heap.get? b = some o ∧ H' b = none := fun b hb o e =>
          let z := J.pin (b, o) (List.mem_append_right _ (List.mem_append_right _ (mem_pinsAt hb e)))
          ⟨z.1, z.2.1⟩
        have hl : D.σ0.length = σ2.length := by rw [← w2, wipe_length]
        refine ⟨⟨hpr, J.unpinned.weak hl (fun j v e => by rw [← w2] at e; exact (wipe_some e).1), fun b hb => ?_⟩, T.keep _ _ _ tn1 fun b hb o e => (pin' b hb o e).1⟩
        obtain ⟨o, e, _⟩ := T.obj _ _ tn1 b hb
        exact ⟨(pin' b hb o e).2, (hf b hb).2⟩
      cases b with
      | false =>
        simp only [Bool.false_eq_true, if_false] at q3 ⊢
        obtain ⟨m', hm', w'⟩ := hNx a H3 q3
        obtain ⟨G3, tn3⟩ := fin I3
        exact seg_again rfl (ih m' hm' (i + 1) n s₀ t3 pins H3 a (by omega) z3 G3 tn3 hacc hp0 w')
      | true =>
        simp only [if_true] at q3 ⊢
        have hy : ∀ v, yieldOut D.Z.env v = yieldValue v := fun v => by simp only [yieldOut, ok.co, Bool.false_eq_true, if_false]
        simp only [hy]
        rw [Sem.bind_eq_wrap', Sem.bind_eq_wrap', Sem.wrap_wrap, Sem.wrap_wrap]
        have hpe := ok.pe.run _ t3 σ2 H3 _ I3 q3
        rw [ok.xe] at hpe
        refine seg_wrap ?_
        rw [hA]
        refine GenW.wpAny_gsz z3 (thnF hpe fun y t4 ⟨z, H4, I4, r4, q4⟩ z4 => ?_)
        obtain ⟨n', rfl⟩ : ∃ n', n = n' + 1 := ⟨n - 1, by omega⟩
        obtain ⟨G4, tn4⟩ := fin I4
        refine seg_at (seg_yield rfl rfl rfl ⟨i, a, pins, H4, z, Nx, r4, z4, hacc, hp0, G4, tn4, q4, fun t' pins' H' a' G' tn' hacc' nx => ?_⟩)
        obtain ⟨m', hm', w'⟩ := hNx a' H' nx
        exact seg_again rfl (ih m' hm' (i + 1) n' t' t' pins' H' a' (by omega) (Nat.le_refl _) G' tn' hacc' (fun p hp => (G'.2.1.pin p (List.mem_append_right _ hp)).1) w')
theorem gx_begin {D : GxD α} {g : TG} {tt : TT} {te : TE} (ok : D.Ok g tt te) {A : Around} (hA : A.over D.loop [] = D.Z.A) {m n : Nat} {s : Shared} {pins : List (Addr × Obj)} {H : Hp} {a : α}
    (hmn : m < n) (G : D.Inv pins H s) (ht : D.tn 0 s.heap) (hacc : D.Acc a s.heap) (hw : D.W 0 m a H) :
    Seg (model D.Z.prog D.Z.w) A D.R D.Y n s D.begin ((model D.Z.prog D.Z.w).den D.begin) [] s := by
  have loop := gx_seg ok hA m 0 n s s pins H a hmn (Nat.le_refl _) G ht hacc (fun p hp => (G.2.1.pin p (List.mem_append_right _ hp)).1) hw
  show Seg _ A _ _ _ s _ ((compStart D.expr 0 (.ref D.it) .none D.Z.env).onRaise (leaving D.Z.env)) [] s
  unfold compStart
  rw [Sem.onRaise_eq_wrap]
  show Seg _ A _ _ _ s _ ((ask >>= _).wrap _ _ _ _) [] s
  refine seg_bind_wrap (wpAny_askSetting ?_)
  split
  · exact seg_again rfl loop
  · first
      | exact seg_bind_wrap (wpAny_rule (seg_bind_wrap (wpAny_standAt (seg_bind_wrap (ok.turn.self _ 0 s _ _ ht (seg_again rfl loop))))))
      | (refine seg_bind_wrap (wpAny_rule ?_); show Seg _ A _ _ _ s _ ((standAt D.iter.pos >>= _).wrap _ _ _ _) [] s; exact seg_bind_wrap (wpAny_standAt (seg_bind_wrap (ok.turn.self _ 0 s _ _ ht (seg_again rfl loop)))))
end
end FF
namespace FF
open PySem PySem.Spec PyProof.Rows L2
variable [LT]
/-! ### generator expressions: the consumer's side -/
section
variable {α : Type}
theorem Inv.gens {X : Cx} {pins : List (Addr × Obj)} {σ : L2.St} {H : Hp} {s : Shared} (I : L2.Inv X pins σ H s) {G : Array GenState} (hG : AllBare G) : L2.Inv X pins σ H { s with gens := G } :=
  ⟨I.ok, I.os, hG, I.base, I.loc, I.cell, I.free, I.freeC, I.pin, I.hok, I.len⟩
theorem bare_set {G : Array GenState} {g : Nat} {x : GenState} (h : AllBare G) (hx : x.bare = true) : AllBare (G.setIfInBounds g x) := fun y hy => by
  obtain ⟨i, hi, rfl⟩ := Array.mem_iff_getElem.mp hy
  rw [Array.getElem_setIfInBounds (by simpa using hi)]
  split
  · exact hx
  · exact h _ (Array.getElem_mem _)
theorem GxD.Inv.setGen {D : GxD α} {pins : List (Addr × Obj)} {H : Hp} {s : Shared} (G : D.Inv pins H s) {g : Nat} {x : GenState} (hx : x.bare = true) : D.Inv pins H (s.setGen g x) :=
  ⟨G.1, Inv.gens G.2.1 (bare_set G.2.1.bare hx), G.2.2⟩
/-- the generator g at ga sleeps; n: more than it will hand out; a: what the consumer has -/
structure GxD.Live (D : GxD α) (A : Around) (ga : Addr) (g n : Nat) (a : α) (s : Shared) : Prop where
  mem : ga ∈ D.prot
  isg : s.heap.IsGen ga g
  acc : D.Acc a s.heap
  inv : ∃ pins H, D.Inv pins H s
  go : ∃ gs, s.gens[g]? = some gs ∧ gs.Goes (model D.Z.prog D.Z.w) A.in1 D.R D.Y n (.send .none) (s.setGen g .running)
/-- it has handed out x, the heap is H; where the consumer comes to Nx it lives on -/
structure GxD.Told (D : GxD α) (A : Around) (ga : Addr) (g n : Nat) (a : α) (x : V) (H : Hp) (Nx : α → Hp → Prop) (s : Shared) : Prop where
  inv : ∃ pins, D.Inv pins H s
  acc : D.Acc a s.heap
  yl : D.Yl a x H Nx
  isg : s.heap.IsGen ga g
  on : ∃ i, D.tn (i + 1) s.heap ∧ ∀ (s' : Shared) (pins' : List (Addr × Obj)) (H' : Hp) (a' : α), s'.gens = s.gens → s'.heap.IsGen ga g → D.Inv pins' H' s' → D.tn (i + 1) s'.heap → D.Acc a' s'.heap → Nx a' H' → ∃ n', n = n' + 1 ∧ D.Live A ga g n' a' s'
theorem pins_same {D : GxD α} {pins : List (Addr × Obj)} {H : Hp} {s s₀ : Shared} (G : D.Inv pins H s) (h0 : ∀ p ∈ pins, s₀.heap.get? p.1 = some p.2) {b : Addr} (hb : b ∈ D.prot) : s.heap.get? b = s₀.heap.get? b := by
  rw [← G.1] at hb
  obtain ⟨p, hp, e⟩ := List.mem_map.mp hb
  rw [← e, (G.2.1.pin p (List.mem_append_right _ hp)).1, h0 p hp]
theorem gx_next {D : GxD α} {A : Around} {ga : Addr} {g n : Nat} {a : α} {s : Shared} {Q : Option Value → Shared → Prop} {E : Value → Shared → Prop} (calm : A.handled = none) (room : A.depth < recursionLimit)
    (hfun : ∀ a a' h, D.Acc a h → D.Acc a' h → a = a') (hpr : ∀ a h h', (∀ b ∈ D.prot, h'.get? b = h.get? b) → D.Acc a h → D.Acc a h') (L : D.Live A ga g n a s)
    (some_ : ∀ v x H Nx t, RelV x v → D.Told A ga g n a x H Nx t → Q (some v) t)
    (none_ : ∀ pins H t, D.Inv pins H t → D.Dn a H → Q none t) :
    wpAny (model D.Z.prog D.Z.w) A (pyNext (.ref ga)) Q E s := by
  obtain ⟨pins0, H0, G0⟩ := L.inv
  obtain ⟨gs, hgs, hgo⟩ := L.go
  refine wpAny_pyNext_genexpQ (P := D.P) (Y := D.Y) (n := n) calm G0.2.1.nolimit room L.isg hgs hgo (fun v t gs' hb hv => ?_) (fun t hp h' hk => ?_)
  · obtain ⟨i, a1, pins, H, x, Nx, rx, hz, hacc, h0, G, htn, hyl, kap⟩ := hv
    have ea : a1 = a := hfun _ _ _ hacc L.acc
    subst ea
    have same : ∀ b ∈ D.prot, t.heap.get? b = s.heap.get? b := fun b hb' => pins_same G h0 hb'
    have isg : t.heap.IsGen ga g := by
      obtain ⟨o, nm, qn, ho, r⟩ := L.isg
      exact ⟨o, nm, qn, (same ga L.mem).trans ho, r⟩
    refine some_ v x H Nx _ rx ⟨⟨pins, G.setGen hb⟩, hpr _ _ _ same hacc, hyl, isg, i, htn, fun s' pins' H' a' hge isg' G' htn' hacc' nx => ?_⟩
    have kp := kap (s'.setGen g .running) pins' H' a' (G'.setGen rfl) htn' hacc' nx
    cases n with
    | zero => exact kp.elim
    | succ n' =>
    refine ⟨n', rfl, L.mem, isg', hacc', ⟨_, _, G'⟩, gs', ?_, kp⟩
    rw [hge]
    · have hlt : g < t.gens.size := by
        have h1 : g < s.gens.size := (Array.getElem?_eq_some_iff.mp hgs).1
        have h2 : (s.setGen g .running).gens.size = s.gens.size := by simp [Shared.setGen]
        omega
      simp [Shared.setGen, hlt]
  · obtain ⟨a1, pins, H, hacc, h0, G, hdn⟩ := hp
    have ea : a1 = a := hfun _ _ _ hacc L.acc
    subst ea
    exact none_ pins H _ ⟨G.1, Inv.gens (G := (t.setGen g .finished).gens) (G.2.1.kept (t' := t.toks) hk) (bare_set G.2.1.bare rfl), G.2.2⟩ hdn
theorem GxD.Told.stay {D : GxD α} {A : Around} {ga : Addr} {g n : Nat} {a a' : α} {x : V} {H : Hp} {Nx : α → Hp → Prop} {s : Shared} (T : D.Told A ga g n a x H Nx s) (tk : Nat) (nx : Nx a' H) (ha : D.Acc a' s.heap) :
    ∃ n', n = n' + 1 ∧ D.Live A ga g n' a' { s with toks := tk } := by
  obtain ⟨pins, G⟩ := T.inv
  obtain ⟨i, ht, on⟩ := T.on
  exact on { s with toks := tk } pins H a' rfl T.isg ⟨G.1, G.2.1.tok tk, G.2.2⟩ ht ha nx
/-- any(..), all(..): where k is not yet, the next; where it is, the end -/
def ylAll (stop : Bool) (Fl : Hp → Prop) : Unit → V → Hp → (Unit → Hp → Prop) → Prop := fun _ x H Nx => ∃ k, x = .bl k ∧ if k = stop then Fl H else Nx () H
theorem unit_fun {D : GxD Unit} : ∀ a a' h, D.Acc a h → D.Acc a' h → a = a' := fun _ _ _ _ _ => rfl
theorem all_loop {D : GxD Unit} {A : Around} {ga : Addr} {g : Nat} {R : Result → Shared → Prop} {Fl : Hp → Prop} (calm : A.handled = none) (room : A.depth < recursionLimit) (hyl : D.Yl = ylAll false Fl) (hac : D.Acc = fun _ _ => True)
    (yes : ∀ pins H t, D.Inv pins H t → D.Dn () H → R (.ok (.ret (.bool true))) t) (no : ∀ pins H t, D.Inv pins H t → Fl H → R (.ok (.ret (.bool false))) t) :
    ∀ n s, D.Live A.in1 ga g n () s → codeAny (model D.Z.prog D.Z.w) A (.builtin "all.loop" ⟨[.ref ga], []⟩) R s := by
  intro n
  induction n using Nat.strongRecOn with
  | _ n ih =>
    intro s L
    refine codeAny_builtin F.entry_all_loop ?_
    rw [Around.under_plainId F.plain_all_loop _]
    show wpAny _ A.in1 (pyNext (.ref ga) >>= _) _ _ s
    refine wpAny_bind (gx_next (A := A.in1) calm room unit_fun (fun _ _ _ _ _ => by rw [hac]; trivial) L (fun v x H Nx t rx T => ?_) (fun pins H t G dn => ?_))
    · have yl := T.yl
      rw [hyl] at yl
      obtain ⟨k, rfl, q⟩ := yl
      obtain rfl : v = .bool k := rx
      refine wpAny_bind (wpAny_holding (wpAny_truthy_bool (wpAny_bind (wpAny_letGo ?_))))
      cases k with
      | true =>
        simp only [Bool.true_eq_false, if_false] at q
        simp only [if_true]
        obtain ⟨n', rfl, L'⟩ := T.stay (a' := ()) t.toks q (by rw [hac]; trivial)
        exact wpAny_pure ⟨plainId_quiet F.plain_all_loop _, ih n' (Nat.lt_succ_self _) t L'⟩
      | false =>
        simp only [if_true] at q
        simp only [Bool.false_eq_true, if_false]
        obtain ⟨pins, G⟩ := T.inv
        exact wpAny_bind (wpAny_rule (wpAny_pure (no pins H t G q)))
    · exact wpAny_bind (wpAny_rule (wpAny_pure (yes pins H t G dn)))
end
end FF
namespace FF
open PySem PySem.Spec PyProof.Rows L2
variable [LT]
/-! ### generator expressions: made -/
/-- the context of a generator expression's frame -/
abbrev gcx (X : Cx) (A : Around) (N : List Str) (s : Shared) (H : Hp) (cenv : Env) (fp : List Addr) : Cx :=
  { X with A := A, N := N, s_0 := s, H_0 := H, env := cenv, outer := X.stack, stack := cenv :: X.stack, ex := fp, fn := fun _ => false, calm := true, pn := [], xe := fun _ _ => False }
/-- its names: own ones, and those that the def (names XN) has as cells; src tells where these stand there -/
structure GxS (XN : List Str) (xsc scope : Scope) (N : List Str) (src : List (Option Nat)) : Prop where
  kind : scope.kind = .function
  co : scope.isCoroutine = false
  cell : ∀ y ∈ scope.names, y.2 ≠ .cell
  dot : scope.names.lookup (".0" : Str) = some NameKind.local
  free : ∀ y ∈ scope.names, y.2 = .free → xsc.names.lookup y.1 = some .cell ∨ xsc.names.lookup y.1 = some .free
  len : src.length = N.length
  nd : N.Nodup
  cap : ∀ (i j : Nat), src[i]? = some (some j) → ∃ x, N[i]? = some x ∧ XN[j]? = some x ∧ scope.names.lookup x = some .free
def gxσ (src : List (Option Nat)) (σ : L2.St) : L2.St := src.map fun o => match o with
  | some j => (σ[j]?).getD none
  | none => none
/-- a table of code objects of generator expressions stands at P -/
def TabG (H : Hp) (P : Addr) : Prop := ∃ ps : Array Value, H P = some (.tbl ps) ∧ TriplesOk ps.toList ∧ LT.lam P = false
/-- H' is H but for the table at P, which may have grown -/
def Tabd (P : Addr) (H H' : Hp) : Prop := TabG H' P ∧ ∀ b, b ≠ P → H' b = H b
section
variable {X : Cx} {pins : List (Addr × Obj)} {σ : L2.St} {H : Hp} {s : Shared}
theorem gx_inv {scope : Scope} {N : List Str} {src : List (Option Nat)} {fp : List Addr} {A : Around} {code : Value} {h' : Heap} {itv : Value} {gs : GenState} {tk : Nat} {og : Obj} (S : GxS X.N X.env.scope scope N src) (I : L2.Inv X pins σ H s) (hfp : ∀ b ∈ fp, FpOk X pins H b ∧ b < s.heap.objs.size)
    (hA : A.handled = none) (hF : A.frames = some (genEnv scope (cloFrom X.env.cells scope.names []) s.heap.objs.size code builtinsNs X.env :: X.stack)) (hgs : gs.bare = true)
    (hn : h'.Ns s.heap.objs.size (fun y => if y = ".0" then some itv else none)) (hs : Heap.SameBut s.heap.objs.size (s.heap.push { cls := .type "frame", data := .dict #[] }) h') :
    L2.Inv (gcx X A N s H (genEnv scope (cloFrom X.env.cells scope.names []) s.heap.objs.size code builtinsNs X.env) fp) [] (gxσ src σ) H { s with gens := s.gens.push gs, toks := tk, heap := h'.push og } := by
  have hfree : ∀ y ∈ scope.names, y.2 = .free → ∃ c, X.env.cells.lookup y.1 = some c := fun y hy e => by
    rcases S.free y hy e with k | k
    · exact I.ok.has _ (.inl k)
    · exact I.ok.has _ (.inr k)
  have kp : ∀ b o, s.heap.get? b = some o → (h'.push og).get? b = some o := fun b o e => Heap.get?_push_of_some _ (hs.extBut b o (Nat.ne_of_lt (Heap.lt_size e)) (Heap.get?_push_of_some _ e))
  have cm : ∀ {y c}, (cloFrom X.env.cells scope.names []).lookup y = some c → X.env.cells.lookup y = some c ∧ c < s.heap.objs.size := fun {y c} e => by
    rcases cloFrom_mem (PySem.mem_of_lookup e) with z | ⟨h1, h2⟩
    · cases z
    · obtain ⟨c', hc⟩ := hfree _ h1 rfl
      rw [hc] at h2
      have h2 : c = c' := h2
      rw [h2]
      obtain ⟨v, z⟩ := I.cell _ _ hc
      exact ⟨hc, z.lt⟩
  have has : ∀ {y}, scope.names.lookup y = some .free → ∃ c, (cloFrom X.env.cells scope.names []).lookup y = some c := fun {y} hl => by
    obtain ⟨c, e⟩ := mem_lookup (cloFrom_has (cells := X.env.cells) (acc := []) (PySem.mem_of_lookup hl))
    exact ⟨c, e⟩
  have okZ : (gcx X A N s H (genEnv scope (cloFrom X.env.cells scope.names []) s.heap.objs.size code builtinsNs X.env) fp).Ok := by
    refine ⟨I.ok.mod, S.kind, I.ok.glob, rfl, Nat.le_refl _, fun y z c e1 e2 => I.ok.inj y z c (cm e1).1 (cm e2).1, fun y hy => ?_, fun y c z e => (Bool.false_ne_true z).elim, fun _ => hA, hF, .inr ⟨rfl, rfl⟩, fun b hb => ⟨Nat.ne_of_lt (hfp b hb).2, fun y c e => (hfp b hb).1.2.2.2.2.1 y c (cm e).1⟩, I.bs, Nat.le_trans I.ok.bsz I.sz, fun b o e hb => ?_, fun b hb z => ?_, I.stack, I.stkFree⟩
    · rcases hy with hy | hy
      · exact absurd rfl (S.cell _ (PySem.mem_of_lookup hy))
      · exact has hy
    · rcases (hfp b hb).1.2.2.2.1 with z | z
      · exact I.ok.noex b o e z
      · exact absurd (Nat.lt_of_lt_of_le (Heap.lt_size e) (Nat.le_trans I.ok.bsz z)) (Nat.lt_irrefl _)
    · rcases List.mem_cons.mp (I.stkSub b z) with z | z
      · exact (hfp b hb).1.2.1 z
      · exact (hfp b hb).1.2.2.1 z
  refine ⟨okZ, rfl, I.bare.push hgs, Un.kept kp, ⟨_, hn.push og, fun i y v e1 e2 e3 => ?_⟩, fun y c e => ?_, I.hok.fresh (Nat.le_refl _), fun y c e => I.freeC y c (cm e).1, fun p hp => absurd (show p ∈ ([] : List (Addr × Obj)) ++ [] from hp) (by simp), I.hok.kept kp, ?_⟩
  · -- the captured names
    unfold gxσ at e2
    rw [List.getElem?_map] at e2
    cases hsrc : src[i]? with
    | none => rw [hsrc] at e2; cases e2
    | some o =>
      rw [hsrc] at e2
      cases o with
      | none => exact absurd (show (some (none : Option V)) = some (some v) from e2) (by simp)
      | some j =>
        have e2 : some ((σ[j]?).getD none) = some (some v) := e2
        have e4 : σ[j]? = some (some v) := by
          cases hj : σ[j]? with
          | none => rw [hj] at e2; exact absurd (Option.some.inj e2) (by simp)
          | some w => rw [hj] at e2; exact congrArg some (Option.some.inj e2)
        obtain ⟨x, hx1, hx2, hx3⟩ := S.cap i j hsrc
        have exy : x = y := Option.some.inj (hx1.symm.trans e1)
        subst exy
        obtain ⟨m, hm, hl⟩ := I.loc
        have hsc := S.free _ (PySem.mem_of_lookup hx3) rfl
        have hvis : Vis X.env.scope x := hsc.elim (fun k => .inr (.inl k)) (fun k => .inr (.inr k))
        obtain ⟨u, ru, lk⟩ := hl j x v hx2 e4 hvis
        refine ⟨u, ru, .inr ⟨.inr hx3, ?_⟩⟩
        obtain ⟨c, hc⟩ := has hx3
        refine ⟨c, hc, ?_⟩
        rcases lk with ⟨k, _⟩ | ⟨_, c', e', z⟩
        · have k : X.env.scope.names.lookup x = some .local := k
          rcases hsc with q | q <;> rw [show X.env.scope.names.lookup x = _ from q] at k <;> cases k
        · have := (cm hc).1
          rw [e'] at this
          cases this
          exact z.keeps kp
  · obtain ⟨v, z⟩ := I.cell y c (cm e).1
    exact ⟨v, z.keeps kp⟩
  · show (gxσ src σ).length = N.length
    unfold gxσ
    rw [List.length_map]
    exact S.len
end
end FF
namespace FF
open PySem PySem.Spec PyProof.Rows L2
variable [LT]
/-! ### generator expressions: the rules -/
section
variable {X : Cx} {pins : List (Addr × Obj)} {σ : L2.St} {H : Hp} {s : Shared}
abbrev gEnv (X : Cx) (scope : Scope) (C : Addr) (code : Value) : Env := genEnv scope (cloFrom X.env.cells scope.names []) C code builtinsNs X.env
/-- a generator expression has been made, at ga: all that is known of it -/
structure Ready (X : Cx) (pins : List (Addr × Obj)) (σ : L2.St) (elt tg iter : Expr) (ifs : List Expr) (scope : Scope) (gpos : Pos) (N : List Str) (src : List (Option Nat)) (J : It) (G : Hp) (it : Addr) (fp : List Addr) (tn : Nat → Heap → Prop) (code : Value) (s4 t : Shared) (ga : Addr) (g : Nat) : Prop where
  i4 : L2.Inv X pins σ G s4
  fpX : ∀ b ∈ fp, FpOk X pins G b ∧ b < s4.heap.objs.size
  turn : Turn X.prog X.w X.K tg J fp it tn
  tn0 : tn 0 t.heap
  isg : t.heap.IsGen ga g
  gen : t.gens[g]? = some (.fresh (.compStart (.GeneratorExp elt [⟨tg, iter, ifs, 0⟩] scope gpos) 0 (.ref it) .none (gEnv X scope s4.heap.objs.size code)))
  inv : ∀ A : Around, A.handled = none → A.frames = some (gEnv X scope s4.heap.objs.size code :: X.stack) → L2.Inv (gcx X A N s4 G (gEnv X scope s4.heap.objs.size code) fp) [] (gxσ src σ) G t
  new : s4.heap.objs.size < ga
  lt : ga < t.heap.objs.size
theorem gx_make {c P : Addr} {elt tg iter : Expr} {ifs : List Expr} {scope : Scope} {gpos : Pos} {N : List Str} {src : List (Option Nat)} {wi : TI} {k : Nat} {Rr : It → Hp → Prop} {Q' : Value → Shared → Prop} (hr : Room k X.A) (TB : LamX.TabB X.base X.mg c P) (hcode : X.env.code = .ref c)
    (S : GxS X.N X.env.scope scope N src) (hi : PI X tg iter wi) (hs : ∀ v, genFold iter X.env v = pure v) (I : L2.Inv X pins σ H s) (h : wi σ H fun J H1 => TabG H1 P ∧ ∀ H2, Tabd P H1 H2 → Rr J H2)
    (fin : ∀ J G it fp tn code s4 t ga g, Rr J G → Ready X pins σ elt tg iter ifs scope gpos N src J G it fp tn code s4 t ga g → Q' (.ref ga) t) :
    wpAny (model X.prog X.w) X.A (eval (.GeneratorExp elt [⟨tg, iter, ifs, 0⟩] scope gpos) X.env) Q' X.xe s := by
  have hfree : ∀ y ∈ scope.names, y.2 = .free → ∃ c, X.env.cells.lookup y.1 = some c := fun y hy e => by
    rcases S.free y hy e with k | k
    · exact I.ok.has _ (.inl k)
    · exact I.ok.has _ (.inr k)
  refine wpAny_GeneratorExp_make S.co (closure_ok hfree) S.cell S.dot S.kind hr.depth (thn (hi.run pins s σ H _ I h) fun xv s1 hx => thn hx fun itv s2 h2 => ?_) hs
  obtain ⟨it, fp, tn, J, H2, e, I2, T, st2, f2, ⟨ps, hP, htr, hlm⟩, q⟩ := h2
  subst e
  have hPs : s2.heap.get? P = some { cls := .none, data := .fields ps } := I2.hok P _ hP
  have cd : PySem.W.CodeHd s2.heap c P := TB.code.keeps I2.bk
  have sz : ∀ b ∈ fp, b < s2.heap.objs.size := fun b hb => by
    obtain ⟨o, e, _⟩ := T.obj _ _ st2 b hb
    exact Heap.lt_size e
  have nP : ∀ b ∈ fp, b ≠ P := fun b hb z => by
    have := (f2 b hb).1
    rw [z, hP] at this
    cases this
  refine ⟨I2.nolimit, ?_⟩
  -- behind the code object's making: the table is ps ++ more
  have cont : ∀ (code : Value) (h3 : Heap) (tk : Nat) (more : Array Value), Heap.ExtBut P s2.heap h3 → h3.get? P = some { cls := .none, data := .fields (ps ++ more) } → TriplesOk (ps ++ more).toList →
      wpAny (model X.prog X.w) X.A (builtinsFor X.env.globals X.env.builtins) (fun bi s4 =>
        ∀ h', h'.Ns s4.heap.objs.size (fun y => if y = ".0" then some (.ref it) else none) → Heap.SameBut s4.heap.objs.size (s4.heap.push { cls := .type "frame", data := .dict #[] }) h' →
          Q' (.ref h'.objs.size) { s4 with
            gens := s4.gens.push (.fresh (.compStart (.GeneratorExp elt [⟨tg, iter, ifs, 0⟩] scope gpos) 0 (.ref it) .none (genEnv scope (cloFrom X.env.cells scope.names []) s4.heap.objs.size code bi X.env))),
            toks := s4.toks + 1 + 1 + 1,
            heap := h'.push { cls := .type "generator", data := .fields #[.int s4.gens.size 0, .str "<genexpr>" (s4.toks + 1), .str (X.env.qual ++ "<genexpr>") (s4.toks + 1 + 1)] } }) X.xe { s2 with heap := h3, toks := tk } := by
    intro code h3 tk more hx hm htr3
    obtain ⟨bm, ob, e1, e2, e3, e4, e5, e6, e7, e8⟩ := TB.bm
    have J4 : L2.Inv X pins σ (upd H2 P (.tbl (ps ++ more))) { s2 with heap := h3, gens := s2.gens, drawn := s2.drawn, toks := tk } := GxR.inv_tab (more := more) I2 hP (fun b o hb e => hx b o hb e) hm I2.bare
    have f4 : ∀ b ∈ fp, FpOk X pins (upd H2 P (.tbl (ps ++ more))) b ∧ b < h3.objs.size := fun b hb => by
      obtain ⟨o, e, _⟩ := T.obj _ _ st2 b hb
      exact ⟨⟨by rw [upd_ne (nP b hb)]; exact (f2 b hb).1, (f2 b hb).2⟩, Heap.lt_size (hx b o (nP b hb) e)⟩
    have tn3 : tn 0 h3 := T.keep _ _ _ st2 fun b hb o e => hx b o (nP b hb) e
    refine wpAny_builtinsFor (m := X.mg) (by rw [I2.ok.glob]; exact (I2.mod.glob.keeps I2.bk).extBut hx TB.gP) e1 e2 (hx _ _ e4 (I2.bk _ _ e5)) e6 e7 e8 ?_
    intro h' hn' hs'
    have hsz : h'.objs.size = h3.objs.size + 1 := by rw [hs'.1, Heap.size_push]
    have kp : ∀ b o, h3.get? b = some o → h'.get? b = some o := fun b o e => hs'.extBut b o (Nat.ne_of_lt (Heap.lt_size e)) (Heap.get?_push_of_some _ e)
    refine fin J (upd H2 P (.tbl (ps ++ more))) it fp tn code { s2 with heap := h3, toks := tk } _ _ s2.gens.size (q _ ⟨⟨ps ++ more, upd_same, htr3, hlm⟩, fun b hb => upd_ne hb⟩) ⟨J4, f4, T, T.keep _ _ _ tn3 fun b hb o e => Heap.get?_push_of_some _ (kp b o e), ⟨_, _, _, Heap.get?_push_size _ rfl, rfl, rfl, rfl⟩, Array.getElem?_push_size .., fun A hA hF => ?_, by show h3.objs.size < h'.objs.size; omega, by show h'.objs.size < (h'.push _).objs.size; rw [Heap.size_push]; exact Nat.lt_succ_self _⟩
    exact gx_inv (s := { s2 with heap := h3, toks := tk }) S J4 f4 hA hF rfl hn' hs'
  cases hf : codeAmong gpos ps.toList with
  | none =>
    refine wpAny_genexprCodeX hcode (cd.code hPs htr) (cd.tab hPs) hf fun c' h' tk hx hge hlt hco' _ htab' _ => ?_
    obtain ⟨o1, vs, f1, tf, fl, tg', inF, tx, tt, op, _, _, _, _, _, _, _, _, _, htr', _⟩ := hco'
    exact cont _ h' tk _ hx htab'.2 htr'
  | some cv =>
    refine wpAny_genexprCode_hit hcode (cd.code hPs htr) hf ?_
    exact cont cv s2.heap s2.toks #[] (Heap.ExtBut.refl _ _) (by rw [Array.append_empty]; exact hPs) (by rw [Array.append_empty]; exact htr)
theorem over_frames {A : Around} {elt tg iter : Expr} {ifs : List Expr} {scope : Scope} {pos : Pos} {it : Value} {env : Env} {l : List Env} (h : A.frames = some l) :
    (A.over (.compLoop (.GeneratorExp elt [⟨tg, iter, ifs, 0⟩] scope pos) 0 it .none env) []).frames = some (env :: l) := by
  unfold Around.over
  simp only [h]
  rfl
theorem over_room {A : Around} {elt tg iter : Expr} {ifs : List Expr} {scope : Scope} {pos : Pos} {it : Value} {env : Env} {k : Nat} (r : Room (k + 1) A) :
    Room k (A.over (.compLoop (.GeneratorExp elt [⟨tg, iter, ifs, 0⟩] scope pos) 0 it .none env) []) :=
  ⟨r.hd, by have := r.dp; show A.depth + 0 + 1 + 3 * k + 5 < _; omega, by have := r.un; show A.units + 0 + 3 + 16 * k + 200 < _; omega⟩
/-- what the rules ask of a generator expression's parts -/
structure GxP (X : Cx) (k : Nat) (elt tg : Expr) (ifs : List Expr) (scope : Scope) (N : List Str) (g : TG) (tt : TT) (te : TE) : Prop where
  pg : ∀ (A : Around) (s : Shared) (G : Hp) (C : Addr) (code : Value) (fp : List Addr), PG (gcx X A N s G (gEnv X scope C code) fp) tg g
  pt : ∀ (A : Around) (s : Shared) (G : Hp) (C : Addr) (code : Value) (fp : List Addr), Room k A → PTs (gcx X A N s G (gEnv X scope C code) fp) ifs tt
  pe : ∀ (A : Around) (s : Shared) (G : Hp) (C : Addr) (code : Value) (fp : List Addr), Room k A → PE (gcx X A N s G (gEnv X scope C code) fp) elt te
/-- a turn's reading; end_: what is wanted behind the last, yl: at an item -/
def GxT {α : Type} (J : It) (g : TG) (tt : TT) (te : TE) (vs : List Nat) (σ0 : L2.St) (W : Nat → Nat → α → Hp → Prop) (yl : α → V → Hp → (α → Hp → Prop) → Prop) (dn : α → Hp → Prop) : Prop :=
  ∀ i m a H, W i m a H → (J.stop i H ∧ dn a H) ∨ (J.go i H ∧ ∃ Nx : α → Hp → Prop, (∀ a' H', Nx a' H' → ∃ m', m' < m ∧ W (i + 1) m' a' H') ∧
    ∀ x H1, J.yld i H x H1 → g x σ0 H1 fun σ2 H2 => wipe σ2 vs = σ0 ∧ tt σ2 H2 fun b H3 => if b = true then te σ2 H3 fun y H4 => yl a y H4 Nx else Nx a H3)
section
variable {α : Type} {elt tg iter : Expr} {ifs : List Expr} {scope : Scope} {gpos : Pos} {N : List Str} {src : List (Option Nat)} {J : It} {G : Hp} {it : Addr} {fp : List Addr} {tn : Nat → Heap → Prop} {code : Value} {s4 t : Shared} {ga : Addr} {g : Nat} {gg : TG} {tt : TT} {te : TE}
/-- the data of the generator with a consumer -/
abbrev Ready.dat (_ : Ready X pins σ elt tg iter ifs scope gpos N src J G it fp tn code s4 t ga g) (A : Around) (prot : List Addr) (Acc : α → Heap → Prop) (W : Nat → Nat → α → Hp → Prop) (Yl : α → V → Hp → (α → Hp → Prop) → Prop) (Dn : α → Hp → Prop) (vs : List Nat) : GxD α :=
  ⟨gcx X (A.in1.over (.compLoop (.GeneratorExp elt [⟨tg, iter, ifs, 0⟩] scope gpos) 0 (.ref it) .none (gEnv X scope s4.heap.objs.size code)) []) N s4 G (gEnv X scope s4.heap.objs.size code) fp, elt, tg, iter, ifs, scope, gpos, it, fp, tn, J, prot, Acc, W, Yl, Dn, wipe (gxσ src σ) vs, vs⟩
theorem Ready.live (R : Ready X pins σ elt tg iter ifs scope gpos N src J G it fp tn code s4 t ga g) {k : Nat} {A : Around} {C : List (Addr × Obj)} {Acc : α → Heap → Prop} {W : Nat → Nat → α → Hp → Prop} {Yl : α → V → Hp → (α → Hp → Prop) → Prop} {Dn : α → Hp → Prop} {vs : List Nat} {a : α} {m : Nat} {h' : Heap} {tk : Nat}
    (S : GxS X.N X.env.scope scope N src) (hp : GxP X k elt tg ifs scope N gg tt te) (room : Room (k + 1) A.in1) (hA : A.in1.frames = some X.stack) (ht : GxT J gg tt te vs (wipe (gxσ src σ) vs) W Yl Dn)
    (hk : ∀ b o, t.heap.get? b = some o → h'.get? b = some o) (hC : ∀ p ∈ C, h'.get? p.1 = some p.2 ∧ t.heap.objs.size ≤ p.1 ∧ ∀ v, p.2.data ≠ .cell v) (hacc : Acc a h') (hw : W 0 m a G) :
    (R.dat A (ga :: C.map (·.1)) Acc W Yl Dn vs).Ok gg tt te ∧ (R.dat A (ga :: C.map (·.1)) Acc W Yl Dn vs).Live A ga g (m + 1) a { t with heap := h', toks := tk } := by
  have hZ := R.inv (A.in1.over (.compLoop (.GeneratorExp elt [⟨tg, iter, ifs, 0⟩] scope gpos) 0 (.ref it) .none (gEnv X scope s4.heap.objs.size code)) []) room.hd (over_frames hA)
  have hZ2 : L2.Inv (gcx X (A.in1.over (.compLoop (.GeneratorExp elt [⟨tg, iter, ifs, 0⟩] scope gpos) 0 (.ref it) .none (gEnv X scope s4.heap.objs.size code)) []) N s4 G (gEnv X scope s4.heap.objs.size code) fp) [] (wipe (gxσ src σ) vs) G { t with heap := h', toks := tk } :=
    (hZ.weak (wipe_length _ _) fun j v e => (wipe_some e).1).kept (t' := tk) hk
  obtain ⟨og, nm, qn, hog, hcls, hdat, hsl⟩ := id R.isg
  have young : ∀ b, s4.heap.objs.size < b → G b = none ∧ b ≠ s4.heap.objs.size ∧ b ∉ frs X.stack := fun b hb => ⟨R.i4.hok.fresh (Nat.le_of_lt hb), Nat.ne_of_gt hb, fun z => by
    rcases List.mem_cons.mp (R.i4.stkSub b z) with z | z
    · rw [z] at hb
      exact absurd (Nat.lt_trans R.i4.lt hb) (Nat.lt_irrefl _)
    · exact R.i4.nofs (Nat.le_of_lt hb) z⟩
  have cY : ∀ p ∈ C, s4.heap.objs.size < p.1 := fun p hp' => Nat.lt_of_lt_of_le (Nat.lt_trans R.new R.lt) (hC p hp').2.1
  have ok : (R.dat A (ga :: C.map (·.1)) Acc W Yl Dn vs).Ok gg tt te := ⟨rfl, rfl, S.co, R.turn, hp.pg .., hp.pt _ _ _ _ _ _ (over_room room), hp.pe _ _ _ _ _ _ (over_room room), ht⟩
  have GI : (R.dat A (ga :: C.map (·.1)) Acc W Yl Dn vs).Inv ((ga, og) :: C) G { t with heap := h', toks := tk } := by
    refine ⟨rfl, hZ2.pins_of fun p hp' => ?_, fun b hb => ?_⟩
    · rcases List.mem_cons.mp hp' with rfl | hp'
      · obtain ⟨y1, y2, y3⟩ := young ga R.new
        exact ⟨hk _ _ hog, y1, y2, y3, fun v z => by rw [hdat] at z; cases z⟩
      · obtain ⟨y1, y2, y3⟩ := young p.1 (cY p hp')
        exact ⟨(hC p hp').1, y1, y2, y3, (hC p hp').2.2⟩
    · refine ⟨(R.fpX b hb).1.1, Nat.ne_of_lt (R.fpX b hb).2, hZ.ok.exfs b hb, .inl hb, (hZ.ok.exf b hb).2, fun p hp' z => ?_⟩
      have hb2 := (R.fpX b hb).2
      rcases List.mem_cons.mp (show p ∈ (ga, og) :: C from hp') with e | hp'
      · rw [← z, e] at hb2
        exact absurd (Nat.lt_trans R.new hb2) (Nat.lt_irrefl _)
      · rw [← z] at hb2
        exact absurd (Nat.lt_trans (cY p hp') hb2) (Nat.lt_irrefl _)
  refine ⟨ok, List.mem_cons_self, ⟨og, nm, qn, hk _ _ hog, hcls, hdat, hsl⟩, hacc, ⟨_, _, GI⟩, _, R.gen, rfl, ?_⟩
  exact gx_begin ok (A := A.in1) rfl (Nat.lt_succ_self m) (GI.setGen rfl) (R.turn.keep _ _ _ R.tn0 fun b _ o e => hk b o e) hacc hw
/-- back in the def -/
theorem Ready.back (R : Ready X pins σ elt tg iter ifs scope gpos N src J G it fp tn code s4 t ga g) {A : Around} {prot : List Addr} {Acc : α → Heap → Prop} {W : Nat → Nat → α → Hp → Prop} {Yl : α → V → Hp → (α → Hp → Prop) → Prop} {Dn : α → Hp → Prop} {vs : List Nat} {pn : List (Addr × Obj)} {H' : Hp} {s' : Shared}
    (GI : (R.dat A prot Acc W Yl Dn vs).Inv pn H' s') : L2.Inv X pins σ H' s' :=
  R.i4.call' (ch := fp) GI.2.1.os GI.2.1.base GI.2.1.hok GI.2.1.bare fun b hb => ⟨(R.fpX b hb).1.2.2.2.1, (R.fpX b hb).1.2.1, (R.fpX b hb).1.2.2.2.2.1, (R.fpX b hb).1.2.2.2.2.2⟩
end
/-- all(elt for ..), any(elt for ..), sum(elt for ..) -/
def tAllG (P : Addr) (stop : Bool) (wi : TI) (g : TG) (tt : TT) (te : TE) (src : List (Option Nat)) (vs : List Nat) : TE := fun σ H Q => wi σ H fun J H1 => TabG H1 P ∧ ∀ H2, Tabd P H1 H2 →
  ∃ W : Nat → Nat → Hp → Prop, (∃ m, W 0 m H2) ∧ GxT (α := Unit) J g tt te vs (wipe (gxσ src σ) vs) (fun i m _ H => W i m H) (ylAll stop fun H' => Q (.bl stop) H') (fun _ H' => Q (.bl !stop) H')
section
variable {c P : Addr} {elt tg iter : Expr} {ifs : List Expr} {scope : Scope} {gpos p pos : Pos} {N : List Str} {src : List (Option Nat)} {wi : TI} {g : TG} {tt : TT} {te : TE} {k : Nat} {vs : List Nat}
theorem pe_all (hr : Room (k + 3) X.A) (hg : Gl X "all") (hm : X.mg "all" = none) (hb : bootBuiltins "all" = some (.builtin "all")) (TB : LamX.TabB X.base X.mg c P) (hcode : X.env.code = .ref c) (S : GxS X.N X.env.scope scope N src) (hi : PI X tg iter wi) (hp : GxP X k elt tg ifs scope N g tt te)
    (hs : ∀ v, genFold iter X.env v = pure v := by intro _; rfl)
    (he : starEach [.GeneratorExp elt [⟨tg, iter, ifs, 0⟩] scope gpos] X.env = (false, eval (.GeneratorExp elt [⟨tg, iter, ifs, 0⟩] scope gpos) X.env) :: starEach [] X.env := by rfl) :
    PE X (.Call (.Name "all" p) [.GeneratorExp elt [⟨tg, iter, ifs, 0⟩] scope gpos] [] pos) (tAllG P false wi g tt te src vs) := by
  refine ⟨fun pins s σ H Q I h => ?_⟩
  refine wpAny_Call_Name_kw (ld_blt I hg hm hb (PyProof.Rows.callWith_builtin1 ?_ he (by rfl)))
  rw [he]
  show wpAny _ _ (spliced ((false, eval (.GeneratorExp elt [⟨tg, iter, ifs, 0⟩] scope gpos) X.env) :: backTo pos (starEach [] X.env))) _ _ s
  refine Calls.spliced_cons (gx_make hr TB hcode S hi hs I h fun J G it fp tn code s4 t ga gn q R => Calls.spliced_nil ?_)
  obtain ⟨W, ⟨m, w0⟩, ht⟩ := q
  have r1 : Room (k + 2) X.A.in1 := hr.in1
  have r2 : Room (k + 1) X.A.in1.in1 := r1.in1
  obtain ⟨ok, L⟩ := R.live (A := X.A.in1) (C := []) (Acc := fun _ _ => True) (a := ()) (m := m) (h' := t.heap) (tk := t.toks) S hp r2 I.ok.frames ht (fun _ _ e => e) (fun _ z => nomatch z) trivial w0
  refine call_function_tree F.kind_all F.plain_all F.entry_all (F.args_all1 _) ?_
  unfold Builtin.«all»
  refine wpAny_bind (m := oneArg "all" _) (wpAny_pure ?_)
  refine wpAny_bind (wpAny_pyIter_gen R.isg ?_)
  refine wpAny_pure ⟨plainId_quiet F.plain_all_loop _, all_loop (A := X.A) hr.hd hr.depth rfl rfl (fun pn H' t' GI dn => ?_) (fun pn H' t' GI q => ?_) (m + 1) t L⟩
  · exact ⟨.bl true, H', R.back GI, rfl, dn⟩
  · exact ⟨.bl false, H', R.back GI, rfl, q⟩
end
end
/-- by a look at the names -/
def gxsB (XN : List Str) (xsc scope : Scope) (N : List Str) (src : List (Option Nat)) : Bool :=
  decide (scope.kind = .function) && (!scope.isCoroutine && ((scope.names.all fun y => decide (y.2 ≠ .cell)) && (decide (scope.names.lookup (".0" : Str) = some NameKind.local) &&
  ((scope.names.all fun y => decide (y.2 ≠ .free) || decide (xsc.names.lookup y.1 = some .cell) || decide (xsc.names.lookup y.1 = some .free)) && (decide (src.length = N.length) && (decide N.Nodup &&
  (List.range src.length).all fun i => match src[i]? with
    | some (some j) => (match N[i]? with
      | some x => decide (XN[j]? = some x) && decide (scope.names.lookup x = some .free)
      | none => false)
    | _ => true))))))
theorem gxs_of {XN : List Str} {xsc scope : Scope} {N : List Str} {src : List (Option Nat)} (h : gxsB XN xsc scope N src = true) : GxS XN xsc scope N src := by
  unfold gxsB at h
  simp only [Bool.and_eq_true, decide_eq_true_eq, Bool.not_eq_true', List.all_eq_true, Bool.or_eq_true] at h
  obtain ⟨h1, h2, h3, h4, h5, h6, h7, h8⟩ := h
  refine ⟨h1, h2, h3, h4, fun y hy e => ?_, h6, h7, fun i j e => ?_⟩
  · rcases h5 y hy with (z | z) | z
    · exact absurd e z
    · exact .inl z
    · exact .inr z
  · have hi : i < src.length := (List.getElem?_eq_some_iff.mp e).1
    have q := h8 i (List.mem_range.mpr hi)
    rw [e] at q
    cases hn : N[i]? with
    | none => rw [hn] at q; cases q
    | some x =>
      rw [hn] at q
      obtain ⟨q1, q2⟩ := Bool.and_eq_true_iff.mp q
      exact ⟨x, rfl, of_decide_eq_true q1, of_decide_eq_true q2⟩
end FF
namespace FF
open PySem PySem.Spec PyProof.Rows L2
variable [LT]
/-! ### tuple(elt for ..) -/
section
variable {α : Type}
end
section
variable {X : Cx} {pins : List (Addr × Obj)} {σ : L2.St} {elt tg iter : Expr} {ifs : List Expr} {scope : Scope} {gpos : Pos} {N : List Str} {src : List (Option Nat)} {J : It} {G : Hp} {it : Addr} {fp : List Addr} {tn : Nat → Heap → Prop} {code : Value} {s4 t : Shared} {ga : Addr} {g : Nat} {gg : TG} {tt : TT} {te : TE}
end
section
variable {X : Cx} {c P : Addr} {elt tg iter : Expr} {ifs : List Expr} {scope : Scope} {gpos p pos : Pos} {N : List Str} {src : List (Option Nat)} {wi : TI} {g : TG} {tt : TT} {te : TE} {k : Nat} {vs : List Nat}
end
end FF
namespace FF
open PySem PySem.Spec PyProof.Rows L2
variable [LT]
/-! ### defs of the text -/
structure DefAt (K : PySem.W.Frag) (mg : Str → Option Value) (x : Str) (st : Stmt) (ps : List Str) (f : Addr) (fd : FuncData) : Prop where
  F : FunD K x x (defArgs st) (defBody st) (defScope st) [] [] f fd
  g : mg x = some (.ref f)
  b : Binds K fd ps []
theorem DefAt.ok {P : Program} {w : World} {K : PySem.W.Frag} {mg : Str → Option Value} {base : Heap} {x : Str} {st : Stmt} {f : Addr} {fd : FuncData} {N ps : List Str} {k : Nat} {sp : Sp} (D : DefAt K mg x st ps f fd) (S : FnScope N ps (defScope st)) (len : ∀ vs H Q E, sp vs H Q E → vs.length = ps.length)
    (hbody : ∀ (A : Around) (outer : List Env) (s : Shared) (H : Hp) (vs : List V) (Q : VK) (E : XK), Room k (A.deeper (envOfC x (defScope st) s.heap.objs.size f fd.code)) → sp vs H Q E →
      ∃ t, PSs (cxOf CX0 P w K mg base N x (defScope st) f fd.code A outer s H E).nox (defBody st) t ∧ t { nx := fun _ H' => Q .non H', rt := Q } (start N vs) H) : FnOk P w K mg base CX0 (k + 1) f fd ps sp := by
  obtain ⟨oc, od, dV, kV, doc, pm, an, cdv, ct, osl, rfl, lk, hcd, _, _⟩ := D.F.ex
  refine fn_of lk hcd S len fun A outer s H vs Q E hr hsp => ?_
  obtain ⟨t, h, q⟩ := hbody A outer s H vs Q E hr hsp
  exact ⟨t, h.nox, q⟩
/-! ### heaps: what stays -/
/-- but for the addresses in S all that is tracked stays; tables stay tables -/
structure Kx (S : Addr → Prop) (H H' : Hp) : Prop where
  at_ : ∀ b o, H b = some o → (∀ ps, o ≠ .tbl ps) → ¬ S b → H' b = some o
  tab : ∀ b, TabG H b → TabG H' b
  dom : ∀ b, H' b = none → H b = none
  lam : ∀ b ps, LT.lam b = true → ¬ S b → H b = some (.tbl ps) → H' b = some (.tbl ps)
theorem upd_none {H : Hp} {p b : Addr} {o : HO} (h : upd H p o b = none) : b ≠ p ∧ H b = none := by
  by_cases e : b = p
  · rw [e, upd_same] at h
    cases h
  · rw [upd_ne e] at h
    exact ⟨e, h⟩
abbrev Ke := Kx fun _ => False
theorem Kx.refl {S : Addr → Prop} {H : Hp} : Kx S H H := ⟨fun _ _ h _ _ => h, fun _ h => h, fun _ h => h, fun _ _ _ _ h => h⟩
theorem Kx.trans {S : Addr → Prop} {H H1 H2 : Hp} (a : Kx S H H1) (b : Kx S H1 H2) : Kx S H H2 := ⟨fun c o h n q => b.at_ c o (a.at_ c o h n q) n q, fun c h => b.tab c (a.tab c h), fun c h => a.dom c (b.dom c h), fun c ps l n h => b.lam c ps l n (a.lam c ps l n h)⟩
theorem Kx.mono {S S' : Addr → Prop} {H H1 : Hp} (a : Kx S H H1) (h : ∀ b, S b → S' b) : Kx S' H H1 := ⟨fun c o e n q => a.at_ c o e n fun z => q (h c z), a.tab, a.dom, fun c ps l n e => a.lam c ps l (fun z => n (h c z)) e⟩
theorem Ke.to {S : Addr → Prop} {H H1 : Hp} (a : Ke H H1) : Kx S H H1 := a.mono fun _ z => z.elim
theorem Ke.new {S : Addr → Prop} {H : Hp} {p : Addr} {o : HO} (h : H p = none) : Kx S H (upd H p o) :=
  ⟨fun b u e _ _ => by rw [upd_ne (ne_of_none e h)]; exact e, fun b ⟨ps, e, t⟩ => ⟨ps, by rw [upd_ne (ne_of_none e h)]; exact e, t⟩, fun _ e => (upd_none e).2, fun b ps _ _ e => by rw [upd_ne (ne_of_none e h)]; exact e⟩
theorem Kx.over {S : Addr → Prop} {H H1 : Hp} {p : Addr} {o : HO} (k : Kx S H H1) (h : H p = none) : Kx S H (upd H1 p o) :=
  ⟨fun b u e n q => by rw [upd_ne (ne_of_none e h)]; exact k.at_ b u e n q, fun b t => by
    obtain ⟨ps, e, z⟩ := k.tab b t
    obtain ⟨ps0, e0, _⟩ := t
    exact ⟨ps, by rw [upd_ne (ne_of_none e0 h)]; exact e, z⟩, fun _ e => k.dom _ (upd_none e).2, fun b ps l n e => by rw [upd_ne (ne_of_none e h)]; exact k.lam b ps l n e⟩
theorem Ke.put {H : Hp} {p : Addr} {o u : HO} (h : H p = some u) (hu : ∀ ps, u ≠ .tbl ps) : Kx (fun b => b = p) H (upd H p o) :=
  ⟨fun b v e _ q => by rw [upd_ne q]; exact e, fun b ⟨ps, e, t⟩ => ⟨ps, by rw [upd_ne (ne_of e h fun z => hu ps z.symm)]; exact e, t⟩, fun _ e => (upd_none e).2, fun b ps _ q e => by rw [upd_ne q]; exact e⟩
theorem Ke.tabd {P : Addr} {H H1 : Hp} (h : TabG H P) (t : Tabd P H H1) : Ke H H1 := by
  obtain ⟨ps, hp, _, hl⟩ := h
  refine ⟨fun b o e n _ => (t.2 b fun z => ?_).trans e, fun b ⟨qs, e, q⟩ => ?_, fun b e => ?_, fun b qs l _ e => (t.2 b fun z => ?_).trans e⟩
  · rw [z, hp] at e
    exact n ps (Option.some.inj e).symm
  · by_cases hb : b = P
    · rw [hb]
      exact t.1
    · exact ⟨qs, (t.2 b hb).trans e, q⟩
  · by_cases hb : b = P
    · obtain ⟨qs, z, _⟩ := t.1
      rw [hb, z] at e
      cases e
    · exact (t.2 b hb).symm.trans e
  · rw [z, hl] at l
    cases l
theorem Ke.lst {H H' : Hp} (a : Ke H H') {p : Addr} {xs : List V} (h : H p = some (.lst xs)) : H' p = some (.lst xs) := a.at_ p _ h (fun _ z => nomatch z) fun z => z
theorem Kx.tup {S : Addr → Prop} {H H' : Hp} (a : Kx S H H') {p : Addr} {xs : List V} (h : H p = some (.tup xs)) (n : ¬ S p) : H' p = some (.tup xs) := a.at_ p _ h (fun _ z => nomatch z) n
theorem Ke.tup {H H' : Hp} (a : Ke H H') {p : Addr} {xs : List V} (h : H p = some (.tup xs)) : H' p = some (.tup xs) := a.at_ p _ h (fun _ z => nomatch z) fun z => z
theorem Kx.seqL {S : Addr → Prop} {K : PySem.W.Frag} {H H' : Hp} {p : Addr} {xs : List V} (a : Kx S H H') (h : SqL K H p xs) (n : ¬ S p) : SqL K H' p xs := by
  rcases h with (h | ⟨o, h⟩) | h
  · exact .inl (.inl (a.at_ _ _ h (fun _ z => nomatch z) n))
  · exact .inl (.inr ⟨o, a.at_ _ _ h (fun _ z => nomatch z) n⟩)
  · exact .inr h
theorem sqT_of {K : PySem.W.Frag} {H : Hp} {p : Addr} {xs : List V} (h : H p = some (.tup xs)) : SqT K H p xs := .inl (.inl h)
theorem sqL_of {K : PySem.W.Frag} {H : Hp} {p : Addr} {xs : List V} (h : H p = some (.lst xs)) : SqL K H p xs := .inl (.inl h)
/-! ### the deck of drawn numbers -/
def Dig (ds : List Int) : Prop := ∀ d ∈ ds, 0 ≤ d ∧ d < 1000
def Deck (H : Hp) (p : Addr) : Prop := ∃ ds : List Int, H p = some (.lst (ds.map V.int)) ∧ Dig ds
/-- numbers were drawn; besides nothing has changed but what is new -/
structure Dk (p : Addr) (H H' : Hp) : Prop where
  k : Kx (fun b => b = p) H H'
  d : Deck H' p
theorem Dk.refl {p : Addr} {H : Hp} (d : Deck H p) : Dk p H H := ⟨.refl, d⟩
theorem Dk.trans {p : Addr} {H H1 H2 : Hp} (a : Dk p H H1) (b : Dk p H1 H2) : Dk p H H2 := ⟨a.k.trans b.k, b.d⟩
theorem Deck.ke {H H' : Hp} {p : Addr} (d : Deck H p) (a : Ke H H') : Deck H' p := by
  obtain ⟨ds, h, g⟩ := d
  exact ⟨ds, a.lst h, g⟩
theorem Dk.ke {p : Addr} {H H1 H2 : Hp} (a : Dk p H H1) (b : Ke H1 H2) : Dk p H H2 := ⟨a.k.trans b.to, a.d.ke b⟩
theorem Dk.new {p q : Addr} {H H1 : Hp} {o : HO} (a : Dk p H H1) (h : H1 q = none) : Dk p H (upd H1 q o) := a.ke (Ke.new h)
theorem Deck.new {p q : Addr} {H : Hp} {o : HO} (a : Deck H p) (h : H q = none) : Deck (upd H q o) p := a.ke (Ke.new h)
theorem Dk.tup {p q : Addr} {H H1 : Hp} {xs : List V} (a : Dk p H H1) (d : Deck H p) (h : H q = some (.tup xs)) : H1 q = some (.tup xs) := by
  obtain ⟨ds, hd, _⟩ := d
  exact a.k.tup h (ne_of h hd (fun z => nomatch z))
theorem Dk.lst {p q : Addr} {H H1 : Hp} {xs : List V} (a : Dk p H H1) (h : H q = some (.lst xs)) (n : q ≠ p) : H1 q = some (.lst xs) := a.k.at_ q _ h (fun _ z => nomatch z) n
theorem Dk.seqL {K : PySem.W.Frag} {p q : Addr} {H H1 : Hp} {xs : List V} (a : Dk p H H1) (h : SqL K H q xs) (n : q ≠ p) : SqL K H1 q xs := a.k.seqL h n
/-! ### webs -/
def Ties (H : Hp) (rs : List V) (ts : List (Int × Int)) : Prop := Paired (fun (r : V) (t : Int × Int) => ∃ q, r = .ref q ∧ H q = some (.tup [.int t.1, .int t.2])) rs ts
def Web (H : Hp) (v : V) (n : Int) (ts : List (Int × Int)) : Prop := ∃ t u rs, v = .ref t ∧ H t = some (.tup [.int n, .ref u]) ∧ H u = some (.tup rs) ∧ Ties H rs ts
theorem Ties.mono {H H' : Hp} {rs : List V} {ts : List (Int × Int)} (h : Ties H rs ts) (k : ∀ q xs, H q = some (.tup xs) → H' q = some (.tup xs)) : Ties H' rs ts := L2.Paired.mapP h fun _ _ ⟨q, e, z⟩ => ⟨q, e, k q _ z⟩
theorem Web.mono {H H' : Hp} {v : V} {n : Int} {ts : List (Int × Int)} (h : Web H v n ts) (k : ∀ q xs, H q = some (.tup xs) → H' q = some (.tup xs)) : Web H' v n ts := by
  obtain ⟨t, u, rs, e, h1, h2, h3⟩ := h
  exact ⟨t, u, rs, e, k _ _ h1, k _ _ h2, h3.mono k⟩
theorem Ties.ke {H H' : Hp} {rs : List V} {ts : List (Int × Int)} (h : Ties H rs ts) (k : Ke H H') : Ties H' rs ts := h.mono fun _ _ => k.tup
theorem Web.ke {H H' : Hp} {v : V} {n : Int} {ts : List (Int × Int)} (h : Web H v n ts) (k : Ke H H') : Web H' v n ts := h.mono fun _ _ => k.tup
theorem Ties.dk {H H' : Hp} {p : Addr} {rs : List V} {ts : List (Int × Int)} (h : Ties H rs ts) (k : Dk p H H') (d : Deck H p) : Ties H' rs ts := h.mono fun _ _ => k.tup d
theorem Web.dk {H H' : Hp} {p : Addr} {v : V} {n : Int} {ts : List (Int × Int)} (h : Web H v n ts) (k : Dk p H H') (d : Deck H p) : Web H' v n ts := h.mono fun _ _ => k.tup d
theorem Ties.append {H : Hp} : ∀ {rs qs : List V} {ts us : List (Int × Int)}, Ties H rs ts → Ties H qs us → Ties H (rs ++ qs) (ts ++ us)
  | _, _, _, _, .nil, b => b
  | _, _, _, _, .cons r t, b => .cons r (Ties.append t b)
theorem Ties.take {H : Hp} : ∀ {rs : List V} {ts : List (Int × Int)} (n : Nat), Ties H rs ts → Ties H (rs.take n) (ts.take n)
  | _, _, 0, _ => .nil
  | _, _, _ + 1, .nil => .nil
  | _, _, n + 1, .cons r t => .cons r (Ties.take n t)
theorem Ties.drop {H : Hp} : ∀ {rs : List V} {ts : List (Int × Int)} (n : Nat), Ties H rs ts → Ties H (rs.drop n) (ts.drop n)
  | _, _, 0, h => h
  | _, _, _ + 1, .nil => .nil
  | _, _, n + 1, .cons _ t => Ties.drop n t
theorem Ties.length {H : Hp} {rs : List V} {ts : List (Int × Int)} (h : Ties H rs ts) : rs.length = ts.length := Paired.length h
theorem Ties.get {H : Hp} : ∀ {rs : List V} {ts : List (Int × Int)} {i : Nat} {r : V}, Ties H rs ts → rs[i]? = some r → ∃ t q, ts[i]? = some t ∧ r = .ref q ∧ H q = some (.tup [.int t.1, .int t.2])
  | _, _, _, _, .nil, e => by simp at e
  | _, _, 0, _, .cons (b := t) ⟨q, e1, e2⟩ _, e => by simp at e; subst e; exact ⟨t, q, rfl, e1, e2⟩
  | _, _, i + 1, r, .cons _ t, e => by
    obtain ⟨u, q, h1, h2, h3⟩ := Ties.get (i := i) (r := r) t (by simpa using e)
    exact ⟨u, q, by simpa using h1, h2, h3⟩
theorem Deck.put {H : Hp} {p q : Addr} {o : HO} (d : Deck H p) (n : p ≠ q) : Deck (upd H q o) p := by
  obtain ⟨ds, h, g⟩ := d
  exact ⟨ds, by rw [upd_ne n]; exact h, g⟩
theorem Deck.ne {H : Hp} {p q : Addr} (d : Deck H p) (h : H q = none) : p ≠ q := by
  obtain ⟨ds, e, _⟩ := d
  exact ne_of_none e h
theorem Dk.over {p q : Addr} {H G : Hp} {o : HO} (k : Dk p H G) (d : Deck H p) (h : H q = none) : Dk p H (upd G q o) := ⟨k.k.over h, k.d.put (d.ne h)⟩
theorem Ties.new {H : Hp} {p : Addr} {o : HO} {rs : List V} {ts : List (Int × Int)} (h : Ties H rs ts) (n : H p = none) : Ties (upd H p o) rs ts := h.mono fun q xs e => by rw [upd_ne (ne_of_none e n)]; exact e
theorem Ties.put {H : Hp} {p : Addr} {o : HO} {zs : List V} {rs : List V} {ts : List (Int × Int)} (h : Ties H rs ts) (n : H p = some (.lst zs)) : Ties (upd H p o) rs ts := h.mono fun q xs e => by rw [upd_ne (ne_of e n (fun z => nomatch z))]; exact e
theorem Ties.one {H : Hp} {q : Addr} {a b : Int} (h : H q = some (.tup [.int a, .int b])) : Ties H [.ref q] [(a, b)] := .cons ⟨q, rfl, h⟩ .nil
/-- a list of ties stands at l -/
def TL (H : Hp) (l : Addr) (ts : List (Int × Int)) : Prop := ∃ rs, H l = some (.lst rs) ∧ Ties H rs ts
def TOk (n : Int) (ts : List (Int × Int)) : Prop := ∀ t ∈ ts, 0 ≤ t.1 ∧ t.1 < t.2 ∧ t.2 < n
theorem TOk.nil {n : Int} : TOk n [] := fun _ z => nomatch z
theorem TOk.append {n : Int} {ts us : List (Int × Int)} (a : TOk n ts) (b : TOk n us) : TOk n (ts ++ us) := fun t ht => (List.mem_append.mp ht).elim (a t) (b t)
theorem TOk.one {n a b : Int} (h0 : 0 ≤ a) (h1 : a < b) (h2 : b < n) : TOk n [(a, b)] := fun t ht => by rw [List.mem_singleton.mp ht]; exact ⟨h0, h1, h2⟩
theorem TL.ke {H H' : Hp} {l : Addr} {ts : List (Int × Int)} (h : TL H l ts) (k : Ke H H') : TL H' l ts := by
  obtain ⟨rs, e, t⟩ := h
  exact ⟨rs, k.lst e, t.ke k⟩
theorem TL.dk {H H' : Hp} {l p : Addr} {ts : List (Int × Int)} (h : TL H l ts) (k : Dk p H H') (d : Deck H p) (n : l ≠ p) : TL H' l ts := by
  obtain ⟨rs, e, t⟩ := h
  exact ⟨rs, k.lst e n, t.dk k d⟩
end FF
namespace FF
open PySem PySem.Spec PyProof.Rows L2
variable [LT]
/-! ### the code object of a def -/
theorem code_at {K : PySem.W.Frag} {x q : Str} {pa : Arguments} {bd : List Stmt} {sc : Scope} {dvs : List V} {kws : List (Str × V)} {f : Addr} {fd : FuncData} (F : FunD K x q pa bd sc dvs kws f fd) : ∃ c, fd.code = .ref c := by
  obtain ⟨oc, od, dV, kV, doc, pm, an, cdv, ct, osl, rfl, lk, hcd, _, _⟩ := F.ex
  exact He.codeIn_ref hcd
theorem code_is {K : PySem.W.Frag} {x q : Str} {pa : Arguments} {bd : List Stmt} {sc : Scope} {dvs : List V} {kws : List (Str × V)} {p : Str × Option Str} {fd : FuncData} {c : Addr} (F : FunD K x q pa bd sc dvs kws (He.fAd K p) fd) (h : fd.code = .ref c) : fd.code = .ref (He.cT K p).1 := by
  obtain ⟨oc, od, dV, kV, doc, pm, an, cdv, ct, osl, rfl, lk, hcd, _, _⟩ := F.ex
  rw [h]
  exact congrArg Value.ref (He.codeOf_eq lk h).symm
/-! ### slices -/
theorem cut_to (xs : List V) (n : Nat) : cutV xs none (some (n : Int)) = xs.take n := by
  unfold cutV
  rw [HT.sIx_none, HT.sIx_nat]
  show (xs.drop 0).take (min n xs.length - 0) = xs.take n
  rw [List.drop_zero, Nat.sub_zero]
  rcases Nat.le_total n xs.length with h | h
  · rw [Nat.min_eq_left h]
  · rw [Nat.min_eq_right h, List.take_of_length_le (Nat.le_refl _), List.take_of_length_le h]
theorem cut_from (xs : List V) (n : Nat) : cutV xs (some (n : Int)) none = xs.drop n := by
  unfold cutV
  rw [HT.sIx_none, HT.sIx_nat]
  rcases Nat.le_total n xs.length with h | h
  · rw [Nat.min_eq_left h, List.take_of_length_le (by rw [List.length_drop]; omega)]
  · rw [Nat.min_eq_right h, Nat.sub_self, List.take_zero, List.drop_of_length_le h]
theorem cut_to' (xs : List V) {i : Int} (h : 0 ≤ i) : cutV xs none (some i) = xs.take i.toNat := by
  rw [← cut_to, Int.toNat_of_nonneg h]
theorem cut_from' (xs : List V) {i : Int} (h : 0 ≤ i) : cutV xs (some i) none = xs.drop i.toNat := by
  rw [← cut_from, Int.toNat_of_nonneg h]
theorem line_big : 16000000 ≤ sizeLine := by decide
theorem emod_bds (x : Int) {n : Int} (h : 0 < n) : 0 ≤ x % n ∧ x % n < n := ⟨Int.emod_nonneg _ (by omega), Int.emod_lt_of_pos _ h⟩
theorem get_int {xs : List Int} {i : Nat} (h : i < xs.length) : (xs.map V.int)[i]? = some (.int xs[i]) := by
  rw [List.getElem?_map, List.getElem?_eq_getElem h]
  rfl
theorem at_int {xs : List Int} {i : Int} (h0 : 0 ≤ i) (h1 : i < xs.length) : ∃ v, v ∈ xs ∧ xs[i.toNat]? = some v ∧ atI (xs.map V.int) i = some (.int v) := by
  obtain ⟨j, rfl⟩ : ∃ j : Nat, i = j := ⟨i.toNat, by omega⟩
  have hj : j < xs.length := by omega
  exact ⟨xs[j], List.getElem_mem _, List.getElem?_eq_getElem hj, atI_nat (get_int hj)⟩
theorem ix_in {n : Nat} {i : Int} (h0 : 0 ≤ i) (h1 : i < n) : ixN n i = some i.toNat := by
  unfold ixN
  rw [if_pos h0, if_pos h1]
theorem yes_ite {σ : L2.St} {H : Hp} {A B : Hp → Prop} (h : A H) : tYes σ H (fun b H3 => if b = true then A H3 else B H3) := by
  show if true = true then A H else B H
  rw [if_pos rfl]
  exact h
theorem int_at {ns : List Int} {i : Nat} {x : V} (hx : (ns.map V.int)[i]? = some x) : ∃ v, ns[i]? = some v ∧ x = .int v := by
  rw [List.getElem?_map] at hx
  cases e : ns[i]? with
  | none => rw [e] at hx; cases hx
  | some v => rw [e] at hx; exact ⟨v, rfl, (Option.some.inj hx).symm⟩
theorem Ties.rep {H : Hp} {q : Addr} {a b : Int} (h : H q = some (.tup [.int a, .int b])) : ∀ k : Nat, Ties H (List.replicate k [V.ref q]).flatten (List.replicate k (a, b))
  | 0 => .nil
  | k + 1 => by
    rw [List.replicate_succ, List.replicate_succ, List.flatten_cons]
    exact .cons ⟨q, rfl, h⟩ (Ties.rep h k)
theorem TOk.rep {n a b : Int} (h0 : 0 ≤ a) (h1 : a < b) (h2 : b < n) (k : Nat) : TOk n (List.replicate k (a, b)) := fun t ht => by
  rw [List.eq_of_mem_replicate ht]
  exact ⟨h0, h1, h2⟩
theorem TOk.mono {n m : Int} {ts : List (Int × Int)} (h : TOk n ts) (k : n ≤ m) : TOk m ts := fun t ht => ⟨(h t ht).1, (h t ht).2.1, Int.lt_of_lt_of_le (h t ht).2.2 k⟩
theorem TOk.sub {n : Int} {ts us : List (Int × Int)} (h : TOk n ts) (k : ∀ t ∈ us, t ∈ ts) : TOk n us := fun t ht => h t (k t ht)
theorem ne_one {a b : Int} (h : ¬ decide (V.int a = V.int b) = true) : a ≠ b := fun e => h (decide_eq_true (by rw [e]))
theorem lst_new {H : Hp} {p q : Addr} {o : HO} {xs : List V} (n : H p = none) (h : H q = some (.lst xs)) : upd H p o q = some (.lst xs) := by rw [upd_ne (ne_of_none h n)]; exact h
theorem tup_new {H : Hp} {p q : Addr} {o : HO} {xs : List V} (n : H p = none) (h : H q = some (.tup xs)) : upd H p o q = some (.tup xs) := by rw [upd_ne (ne_of_none h n)]; exact h
/-! ### things of any kind -/
inductive TyN (H : Hp) : V → String → Prop where
  | non : TyN H .non "NoneType"
  | bl (b : Bool) : TyN H (.bl b) "bool"
  | int (i : Int) : TyN H (.int i) "int"
  | str (x : Str) : TyN H (.str x) "str"
  | lst {a : Addr} {xs : List V} (h : H a = some (.lst xs)) : TyN H (.ref a) "list"
  | tup {a : Addr} {xs : List V} (h : H a = some (.tup xs)) : TyN H (.ref a) "tuple"
  | dic {a : Addr} {kvs : List (Key × V)} (h : H a = some (.dK kvs)) : TyN H (.ref a) "dict"
theorem TyN.x {K : PySem.W.Frag} {H : Hp} {v : V} {n : String} (h : TyN H v n) : TyX K H v (.type n) := by
  cases h with
  | non => exact .base .non
  | bl b => exact .base (.bl b)
  | int i => exact .base (.int i)
  | str x => exact .base (.str x)
  | lst h => exact .base (.lst h)
  | tup h => exact .base (.tup h)
  | dic h => exact .base (.dK h)
def isNum (v : V) (lo hi : Int) : Bool := match v with
  | .int i => decide (lo ≤ i) && decide (i ≤ hi)
  | _ => false
theorem iteB {b : Bool} {A B : Prop} (h1 : b = true → A) (h2 : b = false → B) : if b = true then A else B := by
  cases b with
  | true => exact iteT (h1 rfl)
  | false => exact iteF (h2 rfl)
/-- the names of the kinds -/
def isiB (n : String) (c : String) : Bool := n == c || (n == "bool" && c == "int")
theorem TyN.isi {K : PySem.W.Frag} {H : Hp} {v : V} {n : String} (h : TyN H v n) {c : String} (hc : c = "int" ∨ c = "bool" ∨ c = "tuple" ∨ c = "list") : PySem.W.kitOne K (.type n) (.type c) = some (isiB n c) := by
  rcases hc with rfl | rfl | rfl | rfl <;> cases h <;> exact kit_ty (by decide +kernel)
end FF
namespace FF
open PySem PySem.Spec PyProof.Rows L2
variable [LT]
/-! ### walks of generator expressions -/
section
variable {α : Type} {K : PySem.W.Frag} {u : Addr} {xs : List V} {g : TG} {tt : TT} {te : TE} {vs : List Nat} {σ0 : L2.St} {yl : α → V → Hp → (α → Hp → Prop) → Prop} {dn : α → Hp → Prop} {G : Hp} {a0 : α}
end
/-! ### ties within a lot -/
def inside (ls : List Int) (ts : List (Int × Int)) : Nat := (ts.filter fun t => decide (t.1 ∈ ls) && decide (t.2 ∈ ls)).length
theorem flat_ints (ls : List Int) : (ls.map V.int).all flatV = true := by
  rw [List.all_eq_true]
  intro v hv
  obtain ⟨i, _, rfl⟩ := List.mem_map.mp hv
  rfl
theorem inV_int (a : Int) (ls : List Int) : inV (.int a) (ls.map V.int) = decide (a ∈ ls) := by
  unfold inV
  rw [List.any_map]
  induction ls with
  | nil => rfl
  | cons x r ih =>
    rw [List.any_cons, ih]
    have e : ((fun y => eqV y (V.int a)) ∘ V.int) x = decide (x = a) := rfl
    rw [e]
    by_cases hx : x = a
    · subst hx
      simp
    · have : ¬ a = x := fun z => hx z.symm
      simp [hx, this]
end FF
namespace FF
open PySem PySem.Spec PyProof.Rows L2
variable [LT]
/-! ### rules that speak of the written part, by its own letter (for the blocks of comprehensions) -/
section
variable {X : Cx} {K : PySem.W.Frag}
theorem in_seqK (h : X.K = K := by rfl) : OpR X (compareOp .In) (rIn K false) := h ▸ op_in_seq
theorem notIn_seqK (h : X.K = K := by rfl) : OpR X (compareOp .NotIn) (rIn K true) := h ▸ op_notIn_seq
theorem ix_listK (h : X.K = K := by rfl) : IxR X (rIxL K) := h ▸ ix_list
theorem ix_tupK (h : X.K = K := by rfl) : IxR X (rIxT K) := h ▸ ix_tup
theorem sl_listK (h : X.K = K := by rfl) : L2.SlR X (rSlL K) := h ▸ sl_list
theorem neDK (hu : X.A.units + 64 < cLine) (h : X.K = K := by rfl) : OpR X (compareOp .NotEq) (rNeD K) := h ▸ op_neD hu
theorem lenK (h : X.K = K := by rfl) : CallR X (.builtin "len") (fun xs H Q => ∃ p ys, xs = [.ref p] ∧ (SqL K H p ys ∨ SqT K H p ys) ∧ Q (.int ys.length) H) := h ▸ call_len_seq
theorem listK (h : X.K = K := by rfl) : CallR X (.type "list") (fun xs H Q => ∃ p ys, xs = [.ref p] ∧ (SqL K H p ys ∨ SqT K H p ys) ∧ ∀ l, H l = none → Q (.ref l) (upd H l (.lst ys))) := h ▸ call_list_of
theorem tupleK (h : X.K = K := by rfl) : CallR X (.type "tuple") (fun xs H Q => ∃ p ys, xs = [.ref p] ∧ ((SqL K H p ys ∧ ∀ l, H l = none → Q (.ref l) (upd H l (.tup ys))) ∨ (SqT K H p ys ∧ Q (.ref p) H))) := h ▸ call_tuple_of
theorem isiK (h : X.K = K := by rfl) : CallR X (.builtin "isinstance") (rIsi K) := h ▸ call_isi
theorem maxK (hc : X.calm = true) (h : X.K = K := by rfl) : CallR X (.builtin "max") (rMax K) := h ▸ cr_max hc
theorem sortedK (h : X.K = K := by rfl) : CallR X (.builtin "sorted") (rSortedI K) := h ▸ cr_sortedI
theorem tgtK {es : List Expr} {k n : Nat} {t : TGs} {pos : Pos} (hp : PGs X es t) (hc : X.calm = true := by rfl) (h : X.K = K := by rfl)
    (hn : (assignEach es X.env).length = n := by rfl) (hst : (assignEach es X.env).findIdx? (·.1) = none := by rfl) : PG X (.Tuple es k pos) (gTup K n t) := h ▸ pg_tup hc hp hn hst
end
/-! ### slices and sums of tuples: what is told may be an old tuple or a new one -/
def rSlU (_ : PySem.W.Frag) : V → Option Int → Option Int → Hp → VK → Prop := fun x lo hi H Q => ∃ a xs, x = .ref a ∧ H a = some (.tup xs) ∧ ∀ p H', Ke H H' → H' p = some (.tup (cutV xs lo hi)) → Q (.ref p) H'
theorem sl_tupU {X : Cx} {K : PySem.W.Frag} (h : X.K = K := by rfl) : L2.SlR X (rSlU K) := by
  intro pins s σ H x v vl vu lo hi sl Q I rx hs pl pu hq
  obtain ⟨a, xs, e, hx, q⟩ := hq
  refine sl_tupA pins s σ H x v vl vu lo hi sl Q I rx hs pl pu ⟨a, xs, e, sqT_of hx, fun hw => q a H .refl ?_, fun _ p np => q p _ (Ke.new np) upd_same⟩
  rw [hx]
  unfold cutV
  rw [hw.1, hw.2, List.drop_zero, Nat.sub_zero, List.take_length]
def rCatU (_ : PySem.W.Frag) : R2 := fun x y H Q => ∃ a b xs ys, x = .ref a ∧ y = .ref b ∧ H a = some (.tup xs) ∧ H b = some (.tup ys) ∧ xs.length + ys.length ≤ sizeLine ∧ ∀ p H', Ke H H' → H' p = some (.tup (xs ++ ys)) → Q (.ref p) H'
theorem catU {X : Cx} {K : PySem.W.Frag} (h : X.K = K := by rfl) : OpR X (binaryOp .Add) (rCatU K) := by
  intro pins s σ H x y v u Q I rx ry hq
  obtain ⟨a, b, xs, ys, e1, e2, hx, hy, hl, q⟩ := hq
  refine op_catA pins s σ H x y v u Q I rx ry ⟨a, b, xs, ys, e1, e2, sqT_of hx, sqT_of hy, hl, fun z => q b H .refl ?_, fun _ z => q a H .refl ?_, fun _ _ p np => q p _ (Ke.new np) upd_same⟩
  · rw [hy, z, List.nil_append]
  · rw [hx, z, List.append_nil]
end FF
namespace FF
open PySem PySem.Spec PyProof.Rows L2
variable [LT]
/-! ### walked things with the written part said -/
section
variable {X : Cx} {K : PySem.W.Frag} {tg l : Expr} {tl : TE}
theorem pi_listK (hl : PE X l tl) (h : X.K = K := by rfl) : PI X tg l (iList K tl) := h ▸ pi_list hl
theorem pi_tupK (hl : PE X l tl) (h : X.K = K := by rfl) : PI X tg l (iTup K tl) := h ▸ pi_tup hl
end
section
variable {X : Cx} {K : PySem.W.Frag} {T : String} {name : Str} {id : String} {r : V → List V → Hp → VK → Prop} {o e : Expr} {es : List Expr} {to : TE} {t : TA} {apos cpos : Pos}
end
end FF
namespace FF
open PySem PySem.Spec PyProof.Rows L2
variable [LT]
/-! ### lots -/
/-- a thing is a tuple of these, or of another kind -/
inductive Tpl (H : Hp) : V → Option (List V) → Prop where
  | yes {a : Addr} {xs : List V} (h : H a = some (.tup xs)) (hx : ∀ x ∈ xs, ∃ n, TyN H x n) : Tpl H (.ref a) (some xs)
  | no {v : V} {n : String} (h : TyN H v n) (hn : n ≠ "tuple") : Tpl H v none
/-- rising from lo, below n -/
def rising (n : Int) : Int → List V → Bool
  | _, [] => true
  | lo, v :: r => match v with
    | .int i => isNum v lo (n - 1) && rising n (i + 1) r
    | _ => false
def lotO (n : Int) : Option (List V) → Bool
  | none => false
  | some [] => false
  | some (v :: r) => rising n 0 (v :: r)
def intsOf (xs : List V) : List Int := xs.map fun v => match v with
  | .int i => i
  | _ => 0
def fullO (n : Int) (ts : List (Int × Int)) (k : Int) (o : Option (List V)) : Bool := lotO n o && match o with
  | none => false
  | some xs => decide ((inside (intsOf xs) ts : Int) > k * ((xs.length : Int) - 1))
theorem intsOf_map (ls : List Int) : intsOf (ls.map V.int) = ls := by
  unfold intsOf
  rw [List.map_map]
  exact List.map_id' ls
theorem rising_ints {n : Int} : ∀ {lo : Int} {xs : List V}, rising n lo xs = true → xs = (intsOf xs).map V.int
  | _, [], _ => rfl
  | lo, v :: r, h => by
    cases v with
    | int i =>
      have h : (isNum (.int i) lo (n - 1) && rising n (i + 1) r) = true := h
      have ih := rising_ints (Bool.and_eq_true_iff.mp h).2
      show V.int i :: r = V.int i :: (intsOf r).map V.int
      rw [← ih]
    | _ => cases h
theorem lotO_rising {n : Int} {xs : List V} (h : lotO n (some xs) = true) : xs ≠ [] ∧ rising n 0 xs = true := by
  cases xs with
  | nil => cases h
  | cons v r => exact ⟨List.cons_ne_nil _ _, h⟩
structure Lot (n : Int) (ls : List Int) : Prop where
  ne : ls ≠ []
  up : ls.Pairwise (· < ·)
  ok : ∀ x ∈ ls, 0 ≤ x ∧ x < n
theorem rising_of {n : Int} : ∀ {lo : Int} {ls : List Int}, ls.Pairwise (· < ·) → (∀ x ∈ ls, lo ≤ x ∧ x < n) → rising n lo (ls.map V.int) = true
  | _, [], _, _ => rfl
  | lo, i :: r, hp, hx => by
    obtain ⟨h1, h2⟩ := List.pairwise_cons.mp hp
    have hi := hx i List.mem_cons_self
    show (isNum (.int i) lo (n - 1) && rising n (i + 1) (r.map V.int)) = true
    rw [Bool.and_eq_true_iff]
    refine ⟨?_, rising_of h2 fun x hm => ⟨?_, (hx x (List.mem_cons_of_mem _ hm)).2⟩⟩
    · show (decide (lo ≤ i) && decide (i ≤ n - 1)) = true
      rw [decide_eq_true hi.1, decide_eq_true (by omega : i ≤ n - 1)]
      rfl
    · have := h1 x hm
      omega
theorem Lot.o {n : Int} {ls : List Int} (h : Lot n ls) : lotO n (some (ls.map V.int)) = true := by
  cases e : ls with
  | nil => exact absurd e h.ne
  | cons i r =>
    rw [← e]
    have : lotO n (some (ls.map V.int)) = rising n 0 (ls.map V.int) := by rw [e]; rfl
    rw [this]
    exact rising_of h.up h.ok
theorem Lot.full {n : Int} {ls : List Int} (h : Lot n ls) (ts : List (Int × Int)) (k : Int) : fullO n ts k (some (ls.map V.int)) = decide ((inside ls ts : Int) > k * ((ls.length : Int) - 1)) := by
  unfold fullO
  rw [h.o, Bool.true_and]
  show decide ((inside (intsOf (ls.map V.int)) ts : Int) > k * (((ls.map V.int).length : Int) - 1)) = _
  rw [intsOf_map, List.length_map]
theorem Lot.one {n x : Int} (h0 : 0 ≤ x) (h1 : x < n) : Lot n [x] := ⟨List.cons_ne_nil _ _, List.pairwise_singleton _ _, fun y hy => by rw [List.mem_singleton.mp hy]; exact ⟨h0, h1⟩⟩
theorem Lot.two {n x y : Int} (h0 : 0 ≤ x) (h1 : x < y) (h2 : y < n) : Lot n [x, y] := ⟨List.cons_ne_nil _ _, by simp [h1], fun z hz => by
  rcases List.mem_cons.mp hz with rfl | hz
  · exact ⟨h0, by omega⟩
  · rw [List.mem_singleton.mp hz]
    exact ⟨by omega, h2⟩⟩
theorem ty_ints {H : Hp} (ls : List Int) : ∀ x ∈ ls.map V.int, ∃ n, TyN H x n := fun x hx => by
  obtain ⟨i, _, rfl⟩ := List.mem_map.mp hx
  exact ⟨_, .int i⟩
theorem dp_ints {K : PySem.W.Frag} {H : Hp} : ∀ ls : List Int, DpAll K H (ls.map V.int) (ls.map PyData.int)
  | [] => .nil
  | i :: r => .cons (.int i) (dp_ints r)
theorem Lot.all {n : Int} (h : 1 ≤ n) : Lot n ((List.range n.toNat).map fun (i : Nat) => (i : Int)) := by
  refine ⟨fun z => ?_, ?_, fun x hx => ?_⟩
  · have := congrArg List.length z
    simp at this
    omega
  · rw [List.pairwise_map]
    exact List.pairwise_lt_range.imp fun h => by omega
  · obtain ⟨i, hi, rfl⟩ := List.mem_map.mp hx
    have := List.mem_range.mp hi
    omega
theorem up_length {n : Int} : ∀ {lo : Int} {ls : List Int}, ls.Pairwise (· < ·) → (∀ x ∈ ls, lo ≤ x ∧ x < n) → (ls.length : Int) ≤ max 0 (n - lo)
  | _, [], _, _ => by simp; omega
  | lo, i :: r, hp, hx => by
    obtain ⟨h1, h2⟩ := List.pairwise_cons.mp hp
    have hi := hx i List.mem_cons_self
    have ih := up_length (lo := i + 1) h2 fun x hm => ⟨by have := h1 x hm; omega, (hx x (List.mem_cons_of_mem _ hm)).2⟩
    rw [List.length_cons]
    omega
theorem Lot.length {n : Int} {ls : List Int} (h : Lot n ls) : (ls.length : Int) ≤ max 0 n := by
  have := up_length h.up h.ok
  omega
end FF
namespace FF
open PySem PySem.Spec PyProof.Rows L2
variable [LT]
/-! ### joined points: roots, labels, and how many are apart (plain mathematics) -/
theorem step_mem (acc : List Int) (x k : Int) : k ∈ step_dedup acc x ↔ k ∈ acc ∨ k = x := by
  unfold step_dedup
  split
  · rename_i h
    constructor
    · exact .inl
    · rintro (z | rfl)
      · exact z
      · simpa using h
  · simp
theorem step_nd {acc : List Int} (x : Int) (h : acc.Nodup) : (step_dedup acc x).Nodup := by
  unfold step_dedup
  split
  · exact h
  · rename_i hx
    rw [List.nodup_append]
    refine ⟨h, by simp, fun a ha b hb => ?_⟩
    rw [List.mem_singleton.mp hb]
    rintro rfl
    exact hx (by simpa using ha)
theorem fold_mem : ∀ (ns acc : List Int) (k : Int), k ∈ ns.foldl step_dedup acc ↔ k ∈ acc ∨ k ∈ ns
  | [], acc, k => by simp
  | x :: r, acc, k => by
    rw [List.foldl_cons, fold_mem r, step_mem, List.mem_cons, or_assoc]
theorem fold_nd : ∀ (ns acc : List Int), acc.Nodup → (ns.foldl step_dedup acc).Nodup
  | [], _, h => h
  | x :: r, acc, h => by
    rw [List.foldl_cons]
    exact fold_nd r _ (step_nd x h)
theorem mem_nub (ns : List Int) (k : Int) : k ∈ nub ns ↔ k ∈ ns := by
  unfold nub
  rw [fold_mem]
  simp
theorem nub_nd (ns : List Int) : (nub ns).Nodup := fold_nd ns [] List.nodup_nil
theorem nd_le : ∀ {l m : List Int}, l.Nodup → (∀ x ∈ l, x ∈ m) → l.length ≤ m.length
  | [], _, _, _ => Nat.zero_le _
  | x :: r, m, hd, hs => by
    obtain ⟨h1, h2⟩ := List.nodup_cons.mp hd
    have hx := hs x List.mem_cons_self
    have ih := nd_le (l := r) (m := m.erase x) h2 fun y hy => by
      have hne : y ≠ x := fun z => h1 (z ▸ hy)
      exact (List.mem_erase_of_ne hne).mpr (hs y (List.mem_cons_of_mem _ hy))
    rw [List.length_erase_of_mem hx] at ih
    have := List.length_pos_of_mem hx
    rw [List.length_cons]
    omega
theorem nd_eq {l m : List Int} (h1 : l.Nodup) (h2 : m.Nodup) (h : ∀ x, x ∈ l ↔ x ∈ m) : l.length = m.length :=
  Nat.le_antisymm (nd_le h1 fun x hx => (h x).mp hx) (nd_le h2 fun x hx => (h x).mpr hx)
/-- labels, two of them made one -/
def mrg (a b x : Int) : Int := if x = a ∨ x = b then min a b else x
end FF
namespace FF
open PySem PySem.Spec PyProof.Rows L2
variable [LT]
def rstep (r : Int → Int) (t : Int × Int) : Int → Int := fun x => if r x = r t.2 then r t.1 else r x
def ringlessF : (Int → Int) → List (Int × Int) → Bool
  | _, [] => true
  | r, t :: ts => if r t.1 = r t.2 then false else ringlessF (rstep r t) ts
def hat (hs : List Int) (x : Int) : Int := hs.getD x.toNat 0
def hstep (hs : List Int) (t : Int × Int) : List Int := hs.map (mrg (hat hs t.1) (hat hs t.2))
theorem hat_map {hs : List Int} {f : Int → Int} {x : Int} (h0 : 0 ≤ x) (h1 : x < hs.length) : hat (hs.map f) x = f (hat hs x) := by
  have hx : x.toNat < hs.length := by omega
  unfold hat
  rw [List.getD_eq_getElem?_getD, List.getD_eq_getElem?_getD, List.getElem?_map, List.getElem?_eq_getElem hx]
  rfl
def upTo (n : Int) : List Int := (List.range n.toNat).map fun (i : Nat) => (i : Int)
theorem upTo_length (n : Int) : (upTo n).length = n.toNat := by unfold upTo; rw [List.length_map, List.length_range]
theorem upTo_nd (n : Int) : (upTo n).Nodup := by
  unfold upTo
  rw [List.nodup_iff_pairwise_ne, List.pairwise_map]
  exact List.pairwise_lt_range.imp fun h => by omega
theorem hat_upTo {n x : Int} (h0 : 0 ≤ x) (h1 : x < n) : hat (upTo n) x = x := by
  have hx : x.toNat < (upTo n).length := by rw [upTo_length]; omega
  unfold hat
  rw [List.getD_eq_getElem?_getD, List.getElem?_eq_getElem hx]
  simp only [upTo, List.getElem_map, List.getElem_range, Option.getD_some]
  omega
end FF
namespace FF
open PySem PySem.Spec PyProof.Rows L2
variable [LT]
/-! ### leaders: each point leads to one nearer to its root -/
theorem hat_set {ls : List Int} {i v x : Int} (h0 : 0 ≤ i) (h1 : i < ls.length) (x0 : 0 ≤ x) : hat (ls.set i.toNat v) x = if x = i then v else hat ls x := by
  unfold hat
  rw [List.getD_eq_getElem?_getD, List.getD_eq_getElem?_getD, List.getElem?_set]
  by_cases e : x = i
  · subst e
    rw [if_pos rfl, if_pos rfl, if_pos (by omega)]
    rfl
  · rw [if_neg e, if_neg (by omega)]
theorem hat_at {ls : List Int} {x : Int} (h0 : 0 ≤ x) (h1 : x < ls.length) : atI (ls.map V.int) x = some (.int (hat ls x)) := by
  obtain ⟨v, _, hv, e⟩ := at_int h0 h1
  rw [e]
  unfold hat
  rw [List.getD_eq_getElem?_getD, hv]
  rfl
end FF
namespace FF
open PySem PySem.Spec PyProof.Rows L2
variable [LT]
/-! ### ties picked by their numbers -/
def pick (ts : List (Int × Int)) (ms : List Int) : List (Int × Int) := ms.map fun m => ts.getD m.toNat (0, 0)
theorem pick_append (ts : List (Int × Int)) (ms ks : List Int) : pick ts (ms ++ ks) = pick ts ms ++ pick ts ks := List.map_append
theorem pick_length (ts : List (Int × Int)) (ms : List Int) : (pick ts ms).length = ms.length := List.length_map ..
theorem getD_at {ts : List (Int × Int)} {m : Int} (h0 : 0 ≤ m) (h1 : m < ts.length) : ts[m.toNat]? = some (ts.getD m.toNat (0, 0)) := by
  have hx : m.toNat < ts.length := by omega
  rw [List.getD_eq_getElem?_getD, List.getElem?_eq_getElem hx]
  rfl
/-- the k-th of some ties, with its object -/
theorem Ties.at_ {H : Hp} {rs : List V} {ts : List (Int × Int)} (h : Ties H rs ts) {m : Int} (h0 : 0 ≤ m) (h1 : m < ts.length) : ∃ q, atI rs m = some (.ref q) ∧ H q = some (.tup [.int (ts.getD m.toNat (0, 0)).1, .int (ts.getD m.toNat (0, 0)).2]) := by
  have hx : m.toNat < rs.length := by rw [h.length]; omega
  obtain ⟨t, q, e1, e2, e3⟩ := h.get (List.getElem?_eq_getElem hx)
  rw [getD_at h0 h1] at e1
  cases e1
  refine ⟨q, ?_, e3⟩
  have e : ((m.toNat : Nat) : Int) = m := by omega
  have z := atI_nat (xs := rs) (j := m.toNat) ((List.getElem?_eq_getElem hx).trans (congrArg some e2))
  rw [e] at z
  exact z
def foldR (r : Int → Int) (ts : List (Int × Int)) : Int → Int := ts.foldl rstep r
theorem ringlessF_split : ∀ (us : List (Int × Int)) (r : Int → Int) (ws : List (Int × Int)), ringlessF r us = true → ringlessF r (us ++ ws) = ringlessF (foldR r us) ws
  | [], _, _, _ => rfl
  | t :: us, r, ws, h => by
    unfold ringlessF at h
    by_cases e : r t.1 = r t.2
    · rw [if_pos e] at h
      cases h
    · rw [if_neg e] at h
      show (if r t.1 = r t.2 then false else ringlessF (rstep r t) (us ++ ws)) = _
      rw [if_neg e]
      exact ringlessF_split us _ ws h
theorem ringlessF_bad : ∀ (us : List (Int × Int)) (r : Int → Int) (ws : List (Int × Int)), ringlessF r us = false → ringlessF r (us ++ ws) = false
  | [], _, _, h => by cases h
  | t :: us, r, ws, h => by
    unfold ringlessF at h
    by_cases e : r t.1 = r t.2
    · show (if r t.1 = r t.2 then false else ringlessF (rstep r t) (us ++ ws)) = _
      rw [if_pos e]
    · rw [if_neg e] at h
      show (if r t.1 = r t.2 then false else ringlessF (rstep r t) (us ++ ws)) = _
      rw [if_neg e]
      exact ringlessF_bad us _ ws h
theorem foldR_snoc (r : Int → Int) (us : List (Int × Int)) (t : Int × Int) : foldR r (us ++ [t]) = rstep (foldR r us) t := by
  unfold foldR
  rw [List.foldl_append]
  rfl
/-- one tie more -/
theorem ringlessF_more {us : List (Int × Int)} {r : Int → Int} (h : ringlessF r us = true) (t : Int × Int) : ringlessF r (us ++ [t]) = !decide (foldR r us t.1 = foldR r us t.2) := by
  rw [ringlessF_split us r _ h]
  show (if foldR r us t.1 = foldR r us t.2 then false else true) = _
  by_cases e : foldR r us t.1 = foldR r us t.2
  · rw [if_pos e, decide_eq_true e]
    rfl
  · rw [if_neg e, decide_eq_false e]
    rfl
/-! ### rings -/
def path (lo : Int) : Nat → List Int
  | 0 => []
  | n + 1 => lo :: path (lo + 1) n
theorem decide_int (a b : Int) : decide (V.int a = V.int b) = decide (a = b) := by
  by_cases z : a = b
  · rw [decide_eq_true z, decide_eq_true (congrArg V.int z)]
  · rw [decide_eq_false z, decide_eq_false fun h => z (V.int.inj h)]
theorem take_next {α : Type} {xs : List α} {i : Nat} {x : α} (h : xs[i]? = some x) : xs.take (i + 1) = xs.take i ++ [x] := by
  rw [List.take_add_one, h]
  rfl
theorem take_rest {α : Type} {xs : List α} {i : Nat} {x : α} (h : xs[i]? = some x) : xs = xs.take i ++ [x] ++ xs.drop (i + 1) := by
  rw [← take_next h, List.take_append_drop]
theorem Kx.put {S : Addr → Prop} {H H1 : Hp} {p : Addr} {o : HO} (k : Kx S H H1) (h : H p = none) : Kx S H (upd H1 p o) := k.over h
theorem eqv_nil {ls : List Int} (h : (!PyData.eqv (.list (ls.map PyData.int)) (.list [])) = true) : ls ≠ [] := by
  intro e
  rw [e] at h
  cases h
theorem upTo_snoc (n : Nat) : upTo ((n : Int) + 1) = upTo n ++ [(n : Int)] := by
  unfold upTo
  rw [show ((n : Int) + 1).toNat = n + 1 by omega, show ((n : Int)).toNat = n by omega, List.range_succ, List.map_append]
  rfl
theorem mem_upTo {n x : Int} (h : x ∈ upTo n) : 0 ≤ x ∧ x < n := by
  unfold upTo at h
  obtain ⟨j, hj, rfl⟩ := List.mem_map.mp h
  have := List.mem_range.mp hj
  omega
def but (g : Int) (ms : List Int) : List Int := ms.filter fun i => !decide (i = g)
/-! ### rows of ties' numbers -/
def IsRow (H : Hp) (m : Nat) (x : V) : Prop := ∃ (a : Addr) (ms : List Int), x = .ref a ∧ H a = some (.tup (ms.map V.int)) ∧ ms.length ≤ 1000 ∧ ∀ y ∈ ms, 0 ≤ y ∧ y < (m : Int)
theorem IsRow.mono {H H' : Hp} {m : Nat} {x : V} (h : IsRow H m x) (k : ∀ q xs, H q = some (.tup xs) → H' q = some (.tup xs)) : IsRow H' m x := by
  obtain ⟨a, ms, e, h1, h2⟩ := h
  exact ⟨a, ms, e, k _ _ h1, h2⟩
theorem IsRow.ke {H H' : Hp} {m : Nat} {x : V} (h : IsRow H m x) (k : Ke H H') : IsRow H' m x := h.mono fun _ _ => k.tup
theorem IsRow.dk {H H' : Hp} {p : Addr} {m : Nat} {x : V} (h : IsRow H m x) (k : Dk p H H') (d : Deck H p) : IsRow H' m x := h.mono fun _ _ => k.tup d
theorem IsRow.new {H : Hp} {p : Addr} {o : HO} {m : Nat} {x : V} (h : IsRow H m x) (k : H p = none) : IsRow (upd H p o) m x := h.mono fun _ _ => tup_new k
theorem IsRow.put {H : Hp} {p : Addr} {o : HO} {ys : List V} {m : Nat} {x : V} (h : IsRow H m x) (k : H p = some (.lst ys)) : IsRow (upd H p o) m x := h.mono fun q xs e => by rw [upd_ne (ne_of e k (fun z => nomatch z))]; exact e
structure Rows (H : Hp) (m : Nat) (xs : List V) : Prop where
  all : ∀ x ∈ xs, IsRow H m x
theorem Rows.nil {H : Hp} {m : Nat} : Rows H m [] := ⟨fun _ z => nomatch z⟩
theorem Rows.app {H : Hp} {m : Nat} {xs ys : List V} (a : Rows H m xs) (b : Rows H m ys) : Rows H m (xs ++ ys) := ⟨fun x hx => (List.mem_append.mp hx).elim (a.all x) (b.all x)⟩
theorem Rows.one {H : Hp} {m : Nat} {x : V} (a : IsRow H m x) : Rows H m [x] := ⟨fun y hy => by rw [List.mem_singleton.mp hy]; exact a⟩
theorem Rows.ke {H H' : Hp} {m : Nat} {xs : List V} (h : Rows H m xs) (k : Ke H H') : Rows H' m xs := ⟨fun x hx => (h.all x hx).ke k⟩
theorem Rows.dk {H H' : Hp} {p : Addr} {m : Nat} {xs : List V} (h : Rows H m xs) (k : Dk p H H') (d : Deck H p) : Rows H' m xs := ⟨fun x hx => (h.all x hx).dk k d⟩
theorem Rows.new {H : Hp} {p : Addr} {o : HO} {m : Nat} {xs : List V} (h : Rows H m xs) (k : H p = none) : Rows (upd H p o) m xs := ⟨fun x hx => (h.all x hx).new k⟩
theorem Rows.put {H : Hp} {p : Addr} {o : HO} {ys : List V} {m : Nat} {xs : List V} (h : Rows H m xs) (k : H p = some (.lst ys)) : Rows (upd H p o) m xs := ⟨fun x hx => (h.all x hx).put k⟩
theorem Rows.take {H : Hp} {m n : Nat} {xs : List V} (h : Rows H m xs) : Rows H m (xs.take n) := ⟨fun x hx => h.all x (List.mem_of_mem_take hx)⟩
end FF
namespace FF
open PySem PySem.Spec PyProof.Rows L2
variable [LT]
/-! ### enumerate of a tuple -/
section
variable {P : Program} {w : World} {A : Around} {E : Value → Shared → Prop} {s : Shared}
theorem drawsTup (calm : A.handled = none) (j t : Addr) (far : t ≠ j) (vs : Array Value) : Draws P w A j [j, t] vs.size (fun k v => vs[k]? = some v) (fun k h => h.IsTupleIter j t k ∧ h.IsTuple t vs) where
  live _ _ z := by
    obtain ⟨⟨o, ho, _⟩, _⟩ := z
    exact ⟨o, ho⟩
  frame _ _ _ z k := by
    obtain ⟨⟨o1, a1, r1⟩, o2, a2, r2⟩ := z
    exact ⟨⟨o1, k j List.mem_cons_self o1 a1, r1⟩, o2, k t (List.mem_cons_of_mem _ List.mem_cons_self) o2 a2, r2⟩
  item k u Q F hk z fin := RZ.nextOf_tuple_item z.1 z.2 (x := vs[k]) (Array.getElem?_eq_getElem hk) fun h2 a1 a2 => fin _ h2 u.toks (Array.getElem?_eq_getElem hk) ⟨a1, z.2.extBut a2.extBut far⟩ a2
  done u Q F z fin := RZ.nextOf_tuple_end calm z.1 z.2 (by simp) fin
/-- nothing is left -/
theorem drawnOut (calm : A.handled = none) (j t : Addr) (vs : Array Value) (i : Nat) (hn : vs[i]? = none) : Draws P w A j [j, t] i (fun _ _ => False) (fun k h => k = i ∧ h.IsTupleIter j t i ∧ h.IsTuple t vs) where
  live _ _ z := by
    obtain ⟨_, ⟨o, ho, _⟩, _⟩ := z
    exact ⟨o, ho⟩
  frame _ _ _ z k := by
    obtain ⟨e, ⟨o1, a1, r1⟩, o2, a2, r2⟩ := z
    exact ⟨e, ⟨o1, k j List.mem_cons_self o1 a1, r1⟩, o2, k t (List.mem_cons_of_mem _ List.mem_cons_self) o2 a2, r2⟩
  item k u Q F hk z fin := absurd z.1 (Nat.ne_of_lt hk)
  done u Q F z fin := RZ.nextOf_tuple_end calm z.2.1 z.2.2 hn fin
abbrev itObj (t : Addr) : Obj := { cls := .type "tuple_iterator", data := .fields #[.ref t, .int 0 0] }
abbrev enObj (j : Addr) : Obj :=
  { cls := .type "enumerate",
    data := .fields #[.none, .bool false, .ref j, rawInt 0, .none, .none] }
set_option maxHeartbeats 1000000 in
theorem enumMadeT (t : Addr) (vs : Array Value) (k : Nat) (dd : Option Addr) (ss : Array (Option Value)) : Meets (Builtin.«enumerate.__new__» ⟨[.type "enumerate", .ref t], []⟩) (fun _ R s =>
      s.heap.get? t = some { cls := .type "tuple", dict := dd, data := .seq vs k, slots := ss } ∧
      R (.ok (.ret (.ref (s.heap.push (itObj t)).objs.size))) { s with heap := (s.heap.push (itObj t)).push (enObj s.heap.objs.size) }) :=
  .of_wp fun P w A R s h => by
    obtain ⟨h0, g0, d0, t0, s0⟩ := s
    obtain ⟨ht, h⟩ := h
    have isub := sub_enumerate
    have hT : Heap.IsTuple (Shared.heap ⟨h0, g0, d0, t0, s0⟩) t vs := ⟨_, ht, rfl, k, rfl⟩
    wp_walk using wpAny_loadPart' ht
    refine wpAny_stack_any fun _ => wpAny_pure ?_
    split
    · rename_i cc _ _ _ _ _
      cases (cc == Value.type "enumerate")
      · wp_walk using wpAny_loadPart' ht, wpAny_pyIter_tuple hT
        exact ⟨_, rfl, h⟩
      · wp_walk using wpAny_loadPart' ht, wpAny_pyIter_tuple hT
        exact ⟨_, rfl, h⟩
    · wp_walk using wpAny_loadPart' ht, wpAny_pyIter_tuple hT
      exact ⟨_, rfl, h⟩
theorem callEnumT {t : Addr} {vs : Array Value} {Q : Value → Shared → Prop} (hT : s.heap.IsTuple t vs)
    (fin : ∀ h2, IsEnum h2 (s.heap.objs.size + 1) s.heap.objs.size 0 .none → h2.IsTupleIter s.heap.objs.size t 0 → (∀ b o, s.heap.get? b = some o → h2.get? b = some o) →
      Q (.ref (s.heap.objs.size + 1)) { s with heap := h2 }) : wpAny (model P w) A (call (.type "enumerate") [.ref t]) Q E s := by
  obtain ⟨⟨c1, c2, c3, c4⟩, ht, e1, k, e2⟩ := hT
  have e1 : c1 = .type "tuple" := e1
  have e2 : c3 = .seq vs k := e2
  subst e1 e2
  refine callType_new F.called_enumerate (by decide) (F.typeCall_enumerate_1 _) (F.newCall_enumerate_1 _) (fun z => F.args_object_init_2 z _)
    F.entry_enumerate_new (enumMadeT t vs k c2 c4) ⟨ht, ?_⟩
  have size1 : (s.heap.push (itObj t)).objs.size = s.heap.objs.size + 1 := Heap.size_push ..
  show _ ∧ _
  rw [size1]
  have he : IsEnum ((s.heap.push (itObj t)).push (enObj s.heap.objs.size)) (s.heap.objs.size + 1) s.heap.objs.size 0 .none := by
    have z := Heap.get?_push_size (s.heap.push (itObj t)) (o := enObj s.heap.objs.size) rfl
    rw [size1] at z
    exact z
  exact ⟨⟨_, he, rfl⟩, fin _ he ⟨_, Heap.get?_push_of_some _ (Heap.get?_push_size _ rfl), rfl, rfl⟩ fun b o z => Heap.get?_push_of_some _ (Heap.get?_push_of_some _ z)⟩
end
/-- the tuple at a, each item in a new pair behind its number -/
def IteT (K : PySem.W.Frag) (a : Addr) : It where
  go i H := ∃ (xs : List V) (x : V), SqT K H a xs ∧ xs[i]? = some x
  yld i H v H' := ∃ t x, v = .ref t ∧ H t = none ∧ H' = upd H t (.tup [.int (i : Nat), x]) ∧ ∀ xs, SqT K H a xs → xs[i]? = some x
  stop i H := ∃ xs : List V, SqT K H a xs ∧ xs.length ≤ i
theorem turnEnumT {P : Program} {w : World} {K : PySem.W.Frag} {elts : List Expr} {kk : Nat} {tpos : Pos} (a e j : Addr) :
    Turn P w K (.Tuple elts kk tpos) (IteT K a) [e, j] e (fun i h => (∃ v, IsEnum h e j ((i : Nat) : Int) v) ∧ h.IsTupleIter j a i ∧ e ≠ j) where
  mem := List.mem_cons_self
  obj := by
    intro i h st b hb
    obtain ⟨⟨v, he⟩, ⟨o, ho, hc, hd⟩, _⟩ := st
    rcases List.mem_cons.mp hb with rfl | hb
    · exact ⟨_, he, fun _ z => nomatch z⟩
    · rw [List.mem_singleton.mp hb]
      exact ⟨o, ho, fun _ z => by rw [hd] at z; cases z⟩
  keep := by
    intro i h h' st k
    obtain ⟨⟨v, he⟩, ⟨o, ho, r⟩, far⟩ := st
    exact ⟨⟨v, k e List.mem_cons_self _ he⟩, ⟨o, k j (List.mem_cons_of_mem _ List.mem_cons_self) o ho, r⟩, far⟩
  item := by
    intro X hP hw hK calm i pins s σ H E I hf st hg
    subst hP hw hK
    obtain ⟨⟨v, he⟩, hj, far⟩ := st
    obtain ⟨xs, x, hq, hx⟩ := hg
    obtain ⟨its, rv, hp, _⟩ := I.tuple hq
    obtain ⟨u, hu, ru⟩ := rv.get hx
    have le : e < s.heap.objs.size := Heap.lt_size he
    have lj : j < s.heap.objs.size := by
      obtain ⟨_, z, _⟩ := hj
      exact Heap.lt_size z
    have hne : a ≠ j := by
      intro z
      obtain ⟨o1, a1, b1, _⟩ := hj
      obtain ⟨o2, a2, b2, _⟩ := hp
      rw [z, a1] at a2
      cases a2
      rw [b1] at b2
      exact absurd (Value.type.inj b2) (by decide)
    have hea : e ∉ [j, a] := by
      intro z
      rcases List.mem_cons.mp z with z | z
      · exact far z
      · have z := List.mem_singleton.mp z
        obtain ⟨o2, a2, b2, _⟩ := hp
        rw [← z, he] at a2
        cases a2
        exact absurd (Value.type.inj b2) (by decide)
    have hi : i < its.toArray.size := by
      rw [List.size_toArray]
      exact (List.getElem?_eq_some_iff.mp hu).1
    refine wpAny_pyNext_enum_itemD (drawsTup (A := X.A.in1) (I.ok.hd calm) j a hne its.toArray) he ⟨hj, hp⟩ hi far hea fun y h2 tk hy ho st2 hT2 _ hk => ?_
    have ey : y = u := by
      have hy : its.toArray[i]? = some y := hy
      rw [List.getElem?_toArray, hu] at hy
      exact (Option.some.inj hy).symm
    subst ey
    refine ⟨_, rfl, wpAny_letOwnedTupleGo_enum (s := { s with heap := h2, toks := tk + 1 }) ho fun h3 he3 sb => ?_⟩
    have hT3 : h3.get? s.heap.objs.size = some { cls := .type "tuple", data := .seq #[.int i tk, y] } := (sb.2 _ (Nat.ne_of_gt le)).trans hT2
    have fresh : ObjOk X.prog X.w (upd H s.heap.objs.size (.tup [.int (i : Nat), x])) h3 s.heap.objs.size (.tup [.int (i : Nat), x]) :=
      ⟨by show 2 ≤ sizeLine; decide, [.int i tk, y], .cons ⟨_, rfl⟩ (.cons ru .nil), ⟨_, hT3, rfl, _, rfl⟩⟩
    have I3 : Inv X pins σ (upd H s.heap.objs.size (.tup [.int (i : Nat), x])) { s with heap := h3, toks := tk + 1 } :=
      I.turnedNew (ch := [e, j]) (fun b ob hb z => (sb.2 b (fun r => hb (by simp [r]))).trans (hk b ob (fun r => hb (by simp [r])) (fun r => hb (by simp [r])) z)) hf (Nat.le_refl _) fresh
    refine ⟨.ref s.heap.objs.size, _, I3, rfl, ⟨_, x, rfl, I.hok.fresh (Nat.le_refl _), rfl, fun ys hy => by rw [I.tuple_inj hy hq]; exact hx⟩, ⟨⟨y, ?_⟩, ?_, far⟩, fun b hb => ?_⟩
    · rw [show ((i + 1 : Nat) : Int) = (i : Int) + 1 by omega]
      exact he3
    · obtain ⟨⟨o, z, r⟩, _⟩ := st2
      exact ⟨o, (sb.2 j (Ne.symm far)).trans z, r⟩
    · have lb : b < s.heap.objs.size := by
        rcases List.mem_cons.mp hb with z | z
        · rw [z]; exact le
        · rw [List.mem_singleton.mp z]; exact lj
      rw [upd_ne (Nat.ne_of_lt lb)]
      exact (hf b hb).1
  done := by
    intro X hP hw hK calm i pins s σ H E I hf st hg
    subst hP hw hK
    obtain ⟨⟨v, he⟩, hj, far⟩ := st
    obtain ⟨xs, hq, hx⟩ := hg
    obtain ⟨its, rv, hp, _⟩ := I.tuple hq
    obtain ⟨f0, f1, f2, f3, f4, f5⟩ := hf j (List.mem_cons_of_mem _ List.mem_cons_self)
    have hl := rv.length
    have hn : its.toArray[i]? = none := by
      rw [List.getElem?_toArray]
      exact List.getElem?_eq_none (by omega)
    exact wpAny_pyNext_enum_endD (drawnOut (A := X.A.in1) (I.ok.hd calm) j a its.toArray i hn) he ⟨rfl, hj, hp⟩ fun h2 eb => ⟨rfl, I.turned (t' := s.toks) (fun b o hb z => eb b o hb z) f0 f1 f3 f4 f5⟩
  self := by
    intro A i s Q E st h
    obtain ⟨⟨_, he⟩, _⟩ := st
    exact wpAny_pyIter_enum he h
def iEnumT (K : PySem.W.Frag) (ta : TA) : TI := fun σ H R => ta σ H fun vs G => ∃ a xs, vs = [.ref a] ∧ SqT K G a xs ∧ R (IteT K a) G
theorem pi_enumT {X : Cx} {K : PySem.W.Frag} {e : Expr} {ta : TA} {p1 p2 p3 : Pos} {elts : List Expr} {kk : Nat} (hg : Gl X "enumerate") (hm : X.mg "enumerate" = none) (ha : PA X [e] ta)
    (hK : X.K = K := by rfl) (star : starEach [e] X.env = [(false, eval e X.env)] := by rfl) : PI X (.Tuple elts kk p3) (.Call (.Name "enumerate" p1) [e] [] p2) (iEnumT K ta) := by
  subst hK
  constructor
  intro pins s σ H R I h
  refine Call_ (ld_blt I hg hm boot_enumerate (PyProof.Rows.callWith_type1 (thn (ha.run p2 pins s σ H _ I h) fun us t ⟨vs, G, J, rr, qq⟩ => ?_) star rfl))
  obtain ⟨a, xs, rfl, hq, q⟩ := qq
  cases rr with
  | cons r rr =>
    cases rr
    cases r
    obtain ⟨its, rv, hp, _⟩ := J.tuple hq
    refine callEnumT (show t.heap.IsTuple a its.toArray from hp) fun h2 he hj hk => wpAny_pyIter_enum he ?_
    have J2 : Inv X pins σ G { t with heap := h2 } := J.kept (t' := t.toks) hk
    refine ⟨t.heap.objs.size + 1, [t.heap.objs.size + 1, t.heap.objs.size], _, _, G, rfl, J2, turnEnumT a (t.heap.objs.size + 1) t.heap.objs.size, ⟨⟨.none, he⟩, hj, Nat.succ_ne_self _⟩, fun b hb => ?_, q⟩
    have lb : t.heap.objs.size ≤ b := by
      rcases List.mem_cons.mp hb with z | z
      · rw [z]; exact Nat.le_succ _
      · rw [List.mem_singleton.mp z]; exact Nat.le_refl _
    exact J.fpOk lb (J.hok.fresh lb)
theorem walk_enumT {K : PySem.W.Frag} {a : Addr} {xs : List V} : Walk (IteT K a) xs.length (fun H => SqT K H a xs) (YPair (fun i => some (.int (i : Nat))) (fun i => xs[i]?)) where
  goes i H hi q := ⟨xs, xs[i], q, List.getElem?_eq_getElem hi⟩
  stops H q := ⟨xs, q, Nat.le_refl _⟩
  yields i H v H' _ q y := by
    obtain ⟨t, x, h1, h2, h3, h4⟩ := y
    exact ⟨t, .int (i : Nat), x, h1, h2, h3, rfl, h4 xs q⟩
/-- zip of two tuples -/
theorem walk_zipT {K : PySem.W.Frag} {a b : Addr} {xs ys : List V} {n : Nat} (hn : n = min xs.length ys.length) : Walk (RZ.ItzT K a b) n (fun H => SqT K H a xs ∧ SqT K H b ys) (YPair (fun i => xs[i]?) (fun i => ys[i]?)) where
  goes i H hi q := ⟨xs, ys, xs[i]'(by omega), ys[i]'(by omega), q.1, q.2, List.getElem?_eq_getElem (by omega), List.getElem?_eq_getElem (by omega)⟩
  stops H q := ⟨xs, ys, q.1, q.2, by omega⟩
  yields i H v H' _ q y := by
    obtain ⟨t, x, z, h1, h2, h3, h4, h5⟩ := y
    exact ⟨t, x, z, h1, h2, h3, h4 xs q.1, h5 ys q.2⟩
section
variable {X : Cx}
end
end FF
namespace FF
open PySem PySem.Spec PyProof.Rows L2
variable [LT]
/-! ### what is walked: a list or a tuple -/
section
variable {X : Cx}
def iSeq (K : PySem.W.Frag) (tl : TE) : TI := fun σ H R => tl σ H fun x G => ∃ a xs, x = .ref a ∧ ((SqL K G a xs ∧ R (Itl K a) G) ∨ (SqT K G a xs ∧ R (Itt K a) G))
theorem pi_seq {K : PySem.W.Frag} {tg l : Expr} {tl : TE} (hl : PE X l tl) (hK : X.K = K := by rfl) : PI X tg l (iSeq K tl) := by
  subst hK
  constructor
  intro pins s σ H R I h
  refine thn (hl.run pins s σ H _ I h) fun v t ⟨x, G, J, rx, a, xs, ex, hq⟩ => ?_
  subst ex
  cases rx
  rcases hq with ⟨hq, q⟩ | ⟨hq, q⟩
  · obtain ⟨its, _, p, _⟩ := J.list hq
    exact wpAny_pyIter_list p.isList (pi_one (tk := t.toks) J _ (turn_list a _) ⟨_, Heap.get?_push_size _ rfl, rfl, rfl⟩ q)
  · obtain ⟨its, _, p, _⟩ := J.tuple hq
    exact wpAny_pyIter_tuple (show t.heap.IsTuple a its.toArray from p) (pi_one (tk := t.toks) J _ (turn_tuple a _) ⟨_, Heap.get?_push_size _ rfl, rfl, rfl⟩ q)
end
section
variable {α : Type} {g : TG} {tt : TT} {te : TE} {vs : List Nat} {σ0 : L2.St} {yl : α → V → Hp → (α → Hp → Prop) → Prop} {dn : α → Hp → Prop} {H0 : Hp} {a0 : α} {J : It} {n : Nat} {Gd : Hp → Prop} {Y : Nat → Hp → V → Hp → Prop}
theorem gx_it (w : Walk J n Gd Y) (Pv : Nat → α → Hp → Prop) (h0 : Pv 0 a0 H0) (hG : ∀ i a H, i ≤ n → Pv i a H → Gd H)
    (hs : ∀ (i : Nat) x a H H', i < n → Pv i a H → Y i H x H' → g x σ0 H' fun σ2 H2 => wipe σ2 vs = σ0 ∧ tt σ2 H2 fun b H3 => if b = true then te σ2 H3 fun y H4 => yl a y H4 (Pv (i + 1)) else Pv (i + 1) a H3) (hd : ∀ a H, Pv n a H → dn a H) :
    ∃ W : Nat → Nat → α → Hp → Prop, (∃ m, W 0 m a0 H0) ∧ GxT J g tt te vs σ0 W yl dn := by
  refine ⟨fun i m a H => m = n - i ∧ i ≤ n ∧ Pv i a H, ⟨_, rfl, Nat.zero_le _, h0⟩, ?_⟩
  rintro i m a H ⟨rfl, hi, p⟩
  have ok := hG i a H hi p
  by_cases hlt : i < n
  · exact .inr ⟨w.goes i H hlt ok, Pv (i + 1), fun a' H' p' => ⟨n - (i + 1), by omega, rfl, hlt, p'⟩, fun x H1 y => hs i x a H H1 hlt p (w.yields i H x H1 hlt ok y)⟩
  · have e : i = n := by omega
    subst e
    exact .inl ⟨w.stops H ok, hd a H p⟩
end
section
variable {g : TG} {tt : TT} {te : TE} {vs : List Nat} {σ0 : L2.St} {yl : Unit → V → Hp → (Unit → Hp → Prop) → Prop} {dn : Unit → Hp → Prop} {H0 : Hp} {J : It} {n : Nat} {Gd : Hp → Prop} {Y : Nat → Hp → V → Hp → Prop}
theorem gx_all (w : Walk J n Gd Y) (Pv : Nat → Hp → Prop) (h0 : Pv 0 H0) (hG : ∀ i H, i ≤ n → Pv i H → Gd H)
    (hs : ∀ (i : Nat) x H H', i < n → Pv i H → Y i H x H' → g x σ0 H' fun σ2 H2 => wipe σ2 vs = σ0 ∧ tt σ2 H2 fun b H3 => if b = true then te σ2 H3 fun y H4 => yl () y H4 (fun _ => Pv (i + 1)) else Pv (i + 1) H3) (hd : ∀ H, Pv n H → dn () H) :
    ∃ W : Nat → Nat → Hp → Prop, (∃ m, W 0 m H0) ∧ GxT (α := Unit) J g tt te vs σ0 (fun i m _ H => W i m H) yl dn := by
  obtain ⟨W, ⟨m, hm⟩, hW⟩ := gx_it (a0 := ()) w (fun i _ H => Pv i H) h0 (fun i _ H => hG i H) (fun i x _ H H' => hs i x H H') (fun _ H => hd H)
  exact ⟨fun i m H => W i m () H, ⟨m, hm⟩, hW⟩
end
end FF
namespace FF
open PySem PySem.Spec PyProof.Rows L2
variable [LT]
/-! ### ties by layers -/
def layerOf (ts : List (Int × Int)) (ws : List V) (f : Int) : List (Int × Int) := ((ts.zip ws).filter fun p => decide (p.2 = V.int f)).map Prod.fst
theorem layerOf_snoc {ts : List (Int × Int)} {ws : List V} (h : ts.length = ws.length) (t : Int × Int) (x : V) (f : Int) :
    layerOf (ts ++ [t]) (ws ++ [x]) f = layerOf ts ws f ++ if x = V.int f then [t] else [] := by
  unfold layerOf
  rw [List.zip_append h, List.filter_append, List.map_append]
  congr 1
  show (List.filter (fun p => decide (p.2 = V.int f)) [(t, x)]).map Prod.fst = _
  by_cases e : x = V.int f
  · rw [List.filter_cons_of_pos (p := fun p : (Int × Int) × V => decide (p.2 = V.int f)) (a := (t, x)) (decide_eq_true e), if_pos e]
    rfl
  · rw [List.filter_cons_of_neg (by rw [decide_eq_false e]; decide), if_neg e]
    rfl
theorem layerOf_none {ts : List (Int × Int)} {ws : List V} {f : Int} (h : ∀ x ∈ ws, x ≠ V.int f) : layerOf ts ws f = [] := by
  unfold layerOf
  rw [List.filter_eq_nil_iff.mpr fun p hp => ?_]
  · rfl
  · obtain ⟨u, x⟩ := p
    rw [decide_eq_false (h x (List.of_mem_zip hp).2)]
    decide
/-! ### first fit -/
def freeB (ts : List (Int × Int)) (ws : List V) (t : Int × Int) (f : Int) : Bool := ringlessF (fun x => x) (layerOf ts ws f ++ [t])
inductive FFat (k : Int) (ts : List (Int × Int)) (ws : List V) (t : Int × Int) : V → Prop where
  | out : (∀ f, 0 ≤ f → f < k → freeB ts ws t f = false) → FFat k ts ws t .non
  | at_ {f : Int} : 0 ≤ f → f < k → freeB ts ws t f = true → (∀ g, 0 ≤ g → g < f → freeB ts ws t g = false) → FFat k ts ws t (.int f)
structure FF (k : Int) (ts : List (Int × Int)) (ws : List V) : Prop where
  len : ws.length = ts.length
  each : ∀ i t x, ts[i]? = some t → ws[i]? = some x → FFat k (ts.take i) (ws.take i) t x
theorem FF.nil {k : Int} : FF k [] [] := ⟨rfl, fun i t x h => by simp at h⟩
theorem FF.snoc {k : Int} {ts : List (Int × Int)} {ws : List V} {t : Int × Int} {x : V} (h : FF k ts ws) (hx : FFat k ts ws t x) : FF k (ts ++ [t]) (ws ++ [x]) := by
  have hl := h.len
  refine ⟨by rw [List.length_append, List.length_append, hl]; rfl, fun i u y hu hy => ?_⟩
  by_cases e : i < ts.length
  · rw [List.getElem?_append_left e] at hu
    rw [List.getElem?_append_left (by omega)] at hy
    rw [List.take_append_of_le_length (by omega), List.take_append_of_le_length (by omega)]
    exact h.each i u y hu hy
  · have hi : i = ts.length := by
      have := (List.getElem?_eq_some_iff.mp hu).1
      rw [List.length_append] at this
      have : i < ts.length + 1 := this
      omega
    subst hi
    rw [List.getElem?_append_right (Nat.le_refl _), Nat.sub_self] at hu
    rw [← hl, List.getElem?_append_right (Nat.le_refl _), Nat.sub_self] at hy
    cases hu
    cases hy
    rw [List.take_left, ← hl, List.take_left]
    exact hx
theorem FF.low {k : Int} {ts : List (Int × Int)} {ws : List V} (h : FF k ts ws) (hne : ∀ t ∈ ts, t.1 ≠ t.2) : ∀ (i : Nat) (f : Int), ws[i]? = some (V.int f) → f ≤ (i : Int) := by
  intro i
  induction i using Nat.strongRecOn with
  | _ i ih =>
    intro f hf
    have hi := (List.getElem?_eq_some_iff.mp hf).1
    have hit : i < ts.length := by rw [← h.len]; exact hi
    have ht := List.getElem?_eq_getElem hit
    have hx := h.each i _ _ ht hf
    by_cases c : f ≤ (i : Int)
    · exact c
    · cases hx with
      | at_ h0 h1 h2 h3 =>
        have z := h3 (i : Int) (by omega) (by omega)
        unfold freeB at z
        rw [layerOf_none] at z
        · have hn := hne _ (List.getElem_mem hit)
          show f ≤ _
          rw [List.nil_append] at z
          exact absurd z (by
            show ¬ (if _ = _ then false else true) = false
            rw [if_neg hn]
            decide)
        · intro x hx e
          obtain ⟨j, hj⟩ := List.getElem?_of_mem hx
          have hjl := (List.getElem?_eq_some_iff.mp hj).1
          rw [List.length_take] at hjl
          rw [List.getElem?_take_of_lt (by omega)] at hj
          rw [e] at hj
          have := ih j (by omega) _ hj
          omega
/-- forest i is empty when the i-th tie comes -/
theorem FF.empty {k : Int} {ts : List (Int × Int)} {ws : List V} (h : FF k ts ws) (hne : ∀ t ∈ ts, t.1 ≠ t.2) {i : Nat} {t : Int × Int} (ht : ts[i]? = some t) : freeB (ts.take i) (ws.take i) t (i : Int) = true := by
  have hi := (List.getElem?_eq_some_iff.mp ht).1
  unfold freeB
  rw [layerOf_none]
  · rw [List.nil_append]
    show (if _ = _ then false else true) = true
    rw [if_neg (hne _ (List.mem_of_getElem? ht))]
  · intro x hx e
    obtain ⟨j, hj⟩ := List.getElem?_of_mem hx
    have hjl := (List.getElem?_eq_some_iff.mp hj).1
    rw [List.length_take] at hjl
    rw [List.getElem?_take_of_lt (by omega), e] at hj
    have := h.low hne j _ hj
    omega
theorem first_of {p : Int → Bool} {f m : Int} (h0 : 0 ≤ f) (h1 : f < m) (hp : p f = true) (hq : ∀ g, 0 ≤ g → g < f → p g = false) : ∃ r, (upTo m).filter p = f :: r := by
  have e : upTo m = upTo f ++ (f :: (upTo m).drop (f.toNat + 1)) := by
    have hf : (upTo m)[f.toNat]? = some f := by
      unfold upTo
      rw [List.getElem?_map, List.getElem?_range (by omega)]
      show some ((f.toNat : Nat) : Int) = some f
      rw [show ((f.toNat : Nat) : Int) = f by omega]
    have ht : (upTo m).take f.toNat = upTo f := by
      unfold upTo
      rw [← List.map_take, List.take_range, Nat.min_eq_left (by omega)]
    have z := take_rest hf
    rw [ht, List.append_assoc] at z
    exact z
  rw [e, List.filter_append, List.filter_eq_nil_iff.mpr fun g hg => by rw [hq g (mem_upTo hg).1 (mem_upTo hg).2]; decide, List.filter_cons_of_pos hp]
  exact ⟨_, rfl⟩
theorem FF.head {k : Int} {ts : List (Int × Int)} {ws : List V} (h : FF k ts ws) (hne : ∀ t ∈ ts, t.1 ≠ t.2) {i : Nat} {t : Int × Int} {x : V} (ht : ts[i]? = some t) (hx : ws[i]? = some x) :
    ∃ r, (((upTo (min k ((i : Int) + 1))).filter (freeB (ts.take i) (ws.take i) t)).map V.int) ++ [V.non] = x :: r := by
  have c := h.each i t x ht hx
  cases c with
  | out z =>
    rw [List.filter_eq_nil_iff.mpr fun g hg => by rw [z g (mem_upTo hg).1 (by have := (mem_upTo hg).2; omega)]; decide]
    exact ⟨[], rfl⟩
  | @at_ f h0 h1 h2 h3 =>
    have l := h.low hne i f hx
    obtain ⟨r, e⟩ := first_of (m := min k ((i : Int) + 1)) h0 (by omega) h2 h3
    rw [e]
    exact ⟨_, rfl⟩
theorem FF.ints {k : Int} {ts : List (Int × Int)} {ws : List V} (h : FF k ts ws) (hne : ∀ t ∈ ts, t.1 ≠ t.2) (hk : (ts.length : Int) ≤ k) : ∃ ns : List Int, ws = ns.map V.int := by
  refine ⟨ws.map fun v => match v with | .int i => i | _ => 0, ?_⟩
  rw [List.map_map]
  conv => lhs; rw [← List.map_id ws]
  refine List.map_congr_left fun x hx => ?_
  obtain ⟨i, hi⟩ := List.getElem?_of_mem hx
  have hil := (List.getElem?_eq_some_iff.mp hi).1
  have hit : i < ts.length := by rw [← h.len]; exact hil
  have ht := List.getElem?_eq_getElem hit
  have c := h.each i _ x ht hi
  cases c with
  | out z =>
    have e := h.empty hne ht
    rw [z _ (by omega) (by omega)] at e
    cases e
  | at_ => rfl
/-! ### several forests of leaders -/
theorem Ke.and {S : Addr → Prop} {H H1 H2 : Hp} (a : Ke H H1) (b : Kx S H1 H2) (h : ∀ x, S x → H x = none) : Ke H H2 := by
  refine ⟨fun c o e n q => b.at_ c o (a.at_ c o e n q) n fun z => ?_, fun c t => b.tab c (a.tab c t), fun c e => a.dom c (b.dom c e), fun c ps l q e => b.lam c ps l (fun z => ?_) (a.lam c ps l (fun z => z) e)⟩
  · rw [h c z] at e
    cases e
  · rw [h c z] at e
    cases e
theorem freeB_eq {ts : List (Int × Int)} {ws : List V} {t : Int × Int} {f : Int} (h : ringlessF (fun x => x) (layerOf ts ws f) = true) : freeB ts ws t f = !decide (foldR (fun x => x) (layerOf ts ws f) t.1 = foldR (fun x => x) (layerOf ts ws f) t.2) := ringlessF_more h t
end FF
namespace FF
open PySem PySem.Spec PyProof.Rows L2
variable [LT]
/-! ### the numbers of the ties of a forest -/
def numsFrom (f : Int) : Nat → List V → List Int
  | _, [] => []
  | i, x :: r => (if x = V.int f then [(i : Int)] else []) ++ numsFrom f (i + 1) r
theorem nums_snoc (f : Int) : ∀ (i : Nat) (ws : List V) (x : V), numsFrom f i (ws ++ [x]) = numsFrom f i ws ++ if x = V.int f then [((i + ws.length : Nat) : Int)] else []
  | i, [], x => by
    show (if x = V.int f then [(i : Int)] else []) ++ [] = [] ++ _
    rw [List.append_nil, List.nil_append]
    rfl
  | i, y :: ws, x => by
    show _ ++ numsFrom f (i + 1) (ws ++ [x]) = _
    rw [nums_snoc f (i + 1) ws x, ← List.append_assoc]
    show _ = ((if y = V.int f then [(i : Int)] else []) ++ numsFrom f (i + 1) ws) ++ _
    rw [List.length_cons, show i + 1 + ws.length = i + (ws.length + 1) by omega]
theorem nums_bd (f : Int) : ∀ (i : Nat) (ws : List V), ∀ m ∈ numsFrom f i ws, (i : Int) ≤ m ∧ m < ((i + ws.length : Nat) : Int)
  | i, [], m, h => nomatch h
  | i, y :: ws, m, h => by
    rcases List.mem_append.mp h with h | h
    · by_cases e : y = V.int f
      · rw [if_pos e] at h
        rw [List.mem_singleton.mp h, List.length_cons]
        omega
      · rw [if_neg e] at h
        cases h
    · have := nums_bd f (i + 1) ws m h
      rw [List.length_cons]
      omega
theorem pick_nums (f : Int) : ∀ (pre ts : List (Int × Int)) (ws : List V), ts.length = ws.length → pick (pre ++ ts) (numsFrom f pre.length ws) = layerOf ts ws f
  | pre, [], [], _ => rfl
  | pre, t :: ts, x :: ws, h => by
    have ih := pick_nums f (pre ++ [t]) ts ws (by simpa using h)
    rw [List.append_assoc, List.length_append] at ih
    show pick (pre ++ t :: ts) ((if x = V.int f then [(pre.length : Int)] else []) ++ numsFrom f (pre.length + 1) ws) = _
    rw [pick_append]
    have e1 : pick (pre ++ t :: ts) (numsFrom f (pre.length + 1) ws) = layerOf ts ws f := ih
    rw [e1]
    have e2 : layerOf (t :: ts) (x :: ws) f = (if x = V.int f then [t] else []) ++ layerOf ts ws f := by
      unfold layerOf
      rw [List.zip_cons_cons]
      by_cases e : x = V.int f
      · rw [List.filter_cons_of_pos (p := fun p : (Int × Int) × V => decide (p.2 = V.int f)) (a := (t, x)) (decide_eq_true e), if_pos e]
        rfl
      · rw [List.filter_cons_of_neg (p := fun p : (Int × Int) × V => decide (p.2 = V.int f)) (a := (t, x)) (by rw [decide_eq_false e]; decide), if_neg e]
        rfl
    rw [e2]
    congr 1
    by_cases e : x = V.int f
    · rw [if_pos e, if_pos e]
      show [(pre ++ t :: ts).getD ((pre.length : Int)).toNat (0, 0)] = [t]
      rw [show ((pre.length : Int)).toNat = pre.length by omega, List.getD_eq_getElem?_getD, List.getElem?_append_right (Nat.le_refl _), Nat.sub_self]
      rfl
    · rw [if_neg e, if_neg e]
      rfl
/-! ### ties by forest, in a dict -/
def kvF (fl : List (Int × Addr)) : List (Key × V) := fl.map fun p => (Sum.inl p.1, V.ref p.2)
theorem val_in : ∀ {fl : List (Int × Addr)} {f : Int} {q : Addr}, (fl.map Prod.fst).Nodup → (f, q) ∈ fl → valV (kvF fl) (Sum.inl f) = some (.ref q)
  | p :: fl, f, q, nd, h => by
    rw [List.map_cons, List.nodup_cons] at nd
    rcases List.mem_cons.mp h with h | h
    · rw [← h]
      exact valV_pos rfl
    · have hne : p.1 ≠ f := fun z => nd.1 (z ▸ List.mem_map.mpr ⟨(f, q), h, rfl⟩)
      exact (valV_neg (p := (Sum.inl p.1, V.ref p.2)) (r := kvF fl) fun z => hne (Sum.inl.inj z)).trans (val_in nd.2 h)
theorem val_out {fl : List (Int × Addr)} {f : Int} (h : f ∉ fl.map Prod.fst) : valV (kvF fl) (Sum.inl f) = none := by
  unfold valV kvF
  rw [List.find?_eq_none.mpr fun x hx => ?_]
  · rfl
  · obtain ⟨p, hp, rfl⟩ := List.mem_map.mp hx
    rw [decide_eq_false fun z => h (List.mem_map.mpr ⟨p, hp, Sum.inl.inj z⟩)]
    decide
theorem put_out {fl : List (Int × Addr)} {f : Int} {q : Addr} (h : f ∉ fl.map Prod.fst) : putK (kvF fl) (Sum.inl f) (.ref q) = kvF (fl ++ [(f, q)]) := by
  unfold putK
  rw [valV_any, val_out h]
  show kvF fl ++ [(Sum.inl f, V.ref q)] = kvF (fl ++ [(f, q)])
  unfold kvF
  rw [List.map_append]
  rfl
theorem kvF_length (fl : List (Int × Addr)) : (kvF fl).length = fl.length := List.length_map ..
end FF
namespace FF
open PySem PySem.Spec PyProof.Rows L2
variable [LT]
/-! ### layings -/
def okE (k : Int) (x : V) : Bool := match x with
  | .non => true
  | v => isNum v 0 (k - 1)
def treeB (ts : List (Int × Int)) (ws : List V) (x : V) : Bool := match x with
  | .int f => ringlessF (fun x => x) (layerOf ts ws f)
  | _ => true
def layO (ts : List (Int × Int)) (k : Int) : Option (List V) → Bool
  | none => false
  | some ws => (decide (ws.length = ts.length) && ws.all (okE k)) && ws.all (treeB ts ws)
theorem layO_good {ts : List (Int × Int)} {k : Int} {ws : List V} (hl : ws.length = ts.length) (ho : ∀ x ∈ ws, okE k x = true) (h : ∀ f, V.int f ∈ ws → ringlessF (fun x => x) (layerOf ts ws f) = true) : layO ts k (some ws) = true := by
  show ((decide (ws.length = ts.length) && ws.all (okE k)) && ws.all (treeB ts ws)) = true
  rw [decide_eq_true hl, List.all_eq_true.mpr ho, List.all_eq_true.mpr fun x hx => ?_]
  · rfl
  · cases x with
    | int f => exact h f hx
    | _ => rfl
end FF
namespace FF
open PySem PySem.Spec PyProof.Rows L2
variable [LT]
/-! ### what first fit tells is a laying -/
theorem FF.forest {k : Int} {ts : List (Int × Int)} {ws : List V} (h : FF k ts ws) (f : Int) : ringlessF (fun x => x) (layerOf ts ws f) = true := by
  have hl := h.len
  have z : ∀ i, i ≤ ts.length → ringlessF (fun x => x) (layerOf (ts.take i) (ws.take i) f) = true := by
    intro i
    induction i with
    | zero => intro _; rfl
    | succ i ih =>
      intro hi
      have h1 : ts[i]? = some ts[i] := List.getElem?_eq_getElem (by omega)
      have h2 : ws[i]? = some ws[i] := List.getElem?_eq_getElem (by omega)
      have c := h.each i _ _ h1 h2
      rw [take_next h1, take_next h2, layerOf_snoc (by rw [List.length_take, List.length_take]; omega)]
      by_cases e : ws[i] = V.int f
      · rw [if_pos e]
        rw [e] at c
        cases c with
        | at_ _ _ h3 _ => exact h3
      · rw [if_neg e, List.append_nil]
        exact ih (by omega)
  have := z ts.length (Nat.le_refl _)
  rw [List.take_length, ← hl, List.take_length] at this
  exact this
theorem okE_int {k f : Int} (h0 : 0 ≤ f) (h1 : f < k) : okE k (.int f) = true := by
  show (decide (0 ≤ f) && decide (f ≤ k - 1)) = true
  rw [decide_eq_true h0, decide_eq_true (by omega)]
  rfl
theorem FF.lay {k : Int} {ts : List (Int × Int)} {ws : List V} (h : FF k ts ws) : layO ts k (some ws) = true :=
  layO_good h.len (fun x hx => by
    obtain ⟨i, hi⟩ := List.getElem?_of_mem hx
    have hil := (List.getElem?_eq_some_iff.mp hi).1
    have hit : i < ts.length := by rw [← h.len]; exact hil
    have c := h.each i _ x (List.getElem?_eq_getElem hit) hi
    cases c with
    | out => rfl
    | at_ h0 h1 => exact okE_int h0 h1) fun f _ => h.forest f
/-- some entries left out -/
structure Less (zs ws : List V) : Prop where
  len : zs.length = ws.length
  each : ∀ (i : Nat) z x, zs[i]? = some z → ws[i]? = some x → z = x ∨ z = V.non
theorem Less.nil : Less [] [] := ⟨rfl, fun i z x h => by simp at h⟩
theorem Less.snoc {zs ws : List V} {z x : V} (h : Less zs ws) (hz : z = x ∨ z = V.non) : Less (zs ++ [z]) (ws ++ [x]) := by
  refine ⟨by rw [List.length_append, List.length_append, h.len]; rfl, fun i a b ha hb => ?_⟩
  by_cases e : i < zs.length
  · rw [List.getElem?_append_left e] at ha
    rw [List.getElem?_append_left (by rw [← h.len]; exact e)] at hb
    exact h.each i a b ha hb
  · have hi : i = zs.length := by
      have := (List.getElem?_eq_some_iff.mp ha).1
      rw [List.length_append] at this
      have : i < zs.length + 1 := this
      omega
    subst hi
    rw [List.getElem?_append_right (Nat.le_refl _), Nat.sub_self] at ha
    rw [h.len, List.getElem?_append_right (Nat.le_refl _), Nat.sub_self] at hb
    cases ha
    cases hb
    exact hz
end FF
namespace FF
open PySem PySem.Spec PyProof.Rows L2
variable [LT]
/-! ### a tuple against the empty tuple -/
section
variable {X : Cx} {K : PySem.W.Frag}
def rEq0 (K : PySem.W.Frag) : R2 := fun x y H Q => ∃ a b xs, x = .ref a ∧ y = .ref b ∧ SqT K H a xs ∧ SqT K H b [] ∧ Q (.bl xs.isEmpty) H
theorem op_eq0 (hu : X.A.units + 64 < cLine) (h : X.K = K := by rfl) : OpR X (compareOp .Eq) (rEq0 K) := by
  subst h
  intro pins s σ H x y v u Q I rx ry hq
  obtain ⟨a, b, xs, rfl, rfl, ha, hb, q⟩ := hq
  cases (show v = Value.ref a from rx)
  cases (show u = Value.ref b from ry)
  obtain ⟨its, v1, t1, _⟩ := I.tuple ha
  obtain ⟨its2, v2, t2, _⟩ := I.tuple hb
  have e2 : its2 = [] := by cases v2; rfl
  subst e2
  refine PySem.SeqAt.eq_tupleAt (e := fun _ => true) (show s.heap.IsTuple a its.toArray from t1) (show s.heap.IsTuple b [].toArray from t2) (by omega) (fun j h1 h2 => absurd h2 (by simp)) ?_
  have e : ((List.range (min its.toArray.size ([] : List Value).toArray.size)).all (fun _ => true) && its.toArray.size == ([] : List Value).toArray.size) = xs.isEmpty := by
    cases v1 with
    | nil => rfl
    | cons _ _ => simp
  rw [e]
  exact ⟨.bl xs.isEmpty, H, I, rfl, q⟩
end
/-! ### things of any kind, kept -/
theorem TyN.ke {H H' : Hp} {v : V} {n : String} (h : TyN H v n) (k : Ke H H') : TyN H' v n := by
  cases h with
  | non => exact .non
  | bl b => exact .bl b
  | int i => exact .int i
  | str z => exact .str z
  | lst h => exact .lst (k.lst h)
  | tup h => exact .tup (k.tup h)
  | dic h => exact .dic (k.at_ _ _ h (fun _ z => nomatch z) fun z => z)
theorem TyN.new {H : Hp} {p : Addr} {o : HO} {v : V} {n : String} (h : TyN H v n) (k : H p = none) : TyN (upd H p o) v n := h.ke (Ke.new k)
theorem TyN.put {H : Hp} {p : Addr} {xs ys : List V} {v : V} {n : String} (h : TyN H v n) (k : H p = some (.lst xs)) : TyN (upd H p (.lst ys)) v n := by
  cases h with
  | non => exact .non
  | bl b => exact .bl b
  | int i => exact .int i
  | str z => exact .str z
  | @lst a zs h =>
    by_cases e : a = p
    · exact .lst (xs := ys) (by rw [e]; exact upd_same)
    · exact .lst (by rw [upd_ne e]; exact h)
  | tup h => exact .tup (by rw [upd_ne (ne_of h k (fun z => nomatch z))]; exact h)
  | dic h => exact .dic (by rw [upd_ne (ne_of h k (fun z => nomatch z))]; exact h)
theorem TyN.dk {H H' : Hp} {p : Addr} {v : V} {n : String} (h : TyN H v n) (k : Dk p H H') (d : Deck H p) : TyN H' v n := by
  obtain ⟨ds, hp, _⟩ := d
  cases h with
  | non => exact .non
  | bl b => exact .bl b
  | int i => exact .int i
  | str z => exact .str z
  | @lst a zs h =>
    by_cases e : a = p
    · obtain ⟨ds', hp', _⟩ := k.d
      exact .lst (xs := ds'.map V.int) (by rw [e]; exact hp')
    · exact .lst (k.lst h e)
  | tup h => exact .tup (k.k.tup h (ne_of h hp (fun z => nomatch z)))
  | dic h => exact .dic (k.k.at_ _ _ h (fun _ z => nomatch z) (ne_of h hp (fun z => nomatch z)))
theorem Tpl.mono {H H' : Hp} {v : V} {o : Option (List V)} (h : Tpl H v o) (k : ∀ q xs, H q = some (.tup xs) → H' q = some (.tup xs)) (y : ∀ v n, TyN H v n → TyN H' v n) : Tpl H' v o := by
  cases h with
  | yes h hx => exact .yes (k _ _ h) fun x hm => (hx x hm).elim fun n hn => ⟨n, y _ _ hn⟩
  | no h hn => exact .no (y _ _ h) hn
theorem Tpl.ke {H H' : Hp} {v : V} {o : Option (List V)} (h : Tpl H v o) (k : Ke H H') : Tpl H' v o := h.mono (fun _ _ => k.tup) fun _ _ z => z.ke k
theorem Tpl.ty {H : Hp} {v : V} {o : Option (List V)} (h : Tpl H v o) : ∃ n, TyN H v n := by
  cases h with
  | yes h _ => exact ⟨_, .tup h⟩
  | no h _ => exact ⟨_, h⟩
end FF
namespace FF
open PySem PySem.Spec PyProof.Rows L2
variable [LT]
/-! ### t[::-1] of a tuple -/
section
variable {prog : Program} {w : World} {A : Around} {E : Value → Shared → Prop} {s : Shared}
theorem applied_rev {sl : Addr} {vl vu vs : Value} {n : Nat} {Q : Int × Int × Nat → Shared → Prop} (hs : s.heap.IsSliceOf sl vl vu vs) (pl : IsPart vl none) (pu : IsPart vu none) (ps : IsPart vs (some (-1)))
    (h : Q ((n : Int) - 1, -1, n) s) : wpAny (model prog w) A (Builtin.Slice.sliceApplied (.ref sl) (pure (n : Int))) Q E s := by
  obtain ⟨os, hos, hcs, hds⟩ := id hs
  unfold Builtin.Slice.sliceApplied Builtin.Slice.sliceFields
  refine wpAny_bind (wpAny_bind (wpAny_field hos hds (x := vl) rfl (wpAny_bind (wpAny_field hos hds (x := vu) rfl (wpAny_bind (wpAny_field hos hds (x := vs) rfl (wpAny_pure ?_)))))))
  refine wpAny_bind (HT.slicePart_ ps ?_)
  show wpAny _ _ (if ((-1 : Int) == 0) = true then _ else _) _ _ s
  rw [if_neg (by decide)]
  refine wpAny_bind (HT.slicePart_ pl (wpAny_bind (HT.slicePart_ pu (wpAny_bind (wpAny_pure ?_)))))
  show wpAny _ _ (pure ((n : Int) - 1, (-1 : Int), Builtin.Slice.slicePlaces ((n : Int) - 1) (-1) (-1))) _ _ s
  have e : Builtin.Slice.slicePlaces ((n : Int) - 1) (-1) (-1) = n := by
    unfold Builtin.Slice.slicePlaces
    rw [if_neg (by decide)]
    split
    · rw [show (-(-1 : Int)) = 1 by decide, Int.ediv_one]
      omega
    · have : n = 0 := by omega
      subst this
      rfl
  rw [e]
  exact wpAny_pure h
theorem pick_rev (xs : Array Value) : ((List.range xs.size).filterMap fun (m : Nat) => xs[(((xs.size : Int) - 1) + (m : Int) * (-1)).toNat]?).toArray = xs.toList.reverse.toArray := by
  have e : (List.range xs.size).filterMap (fun (m : Nat) => xs[(((xs.size : Int) - 1) + (m : Int) * (-1)).toNat]?) = ((List.range xs.size).map fun k => xs.size - 1 - k).filterMap (xs[·]?) := by
    rw [List.filterMap_map]
    congr 1
    funext m
    show xs[(((xs.size : Int) - 1) + (m : Int) * (-1)).toNat]? = xs[xs.size - 1 - m]?
    have : (((xs.size : Int) - 1) + (m : Int) * (-1)).toNat = xs.size - 1 - m := by omega
    rw [this]
  rw [e, PySem.W.krv_range, List.filterMap_reverse, PySem.W.krv_all]
theorem getItem_tuple_rev {t sl : Addr} {items : Array Value} {vl vu vs : Value} {Q : Value → Shared → Prop} (ht : IsTup s.heap t items) (hs : s.heap.IsSliceOf sl vl vu vs) (pl : IsPart vl none) (pu : IsPart vu none) (ps : IsPart vs (some (-1)))
    (h : Q (.ref s.heap.objs.size) { s with heap := s.heap.push { cls := .type "tuple", data := .seq items.toList.reverse.toArray } })
    (hsz : items.size ≤ sizeLine) : wpAny (model prog w) A (getItem (.ref t) (.ref sl)) Q E s := by
  have htake : sizeOk (.seq items.toList.reverse.toArray) := by
    show items.toList.reverse.toArray.size ≤ sizeLine
    rw [List.size_toArray, List.length_reverse, Array.length_toList]
    exact hsz
  obtain ⟨os, hos, hcs, hds⟩ := id hs
  have hTs : s.TypeIs (.ref sl) "slice" := ⟨os, hos, hcs⟩
  unfold getItem
  try with_reducible refine wpAny_holding ?_
  first | refine wpAny_bind (wpAny_pure ?_) | skip
  refine wpAny_bind (wpAny_sequenceKey ht.typeIs (by decide) ?_)
  refine wpAny_bind (wpAny_callSpecial?_slot (name := Str.ofString "__getitem__") ht.typeIs PyProof.Rows.slot_tuple_getitem
    (wpAny_call_entry PyProof.Rows.slot_tuple_getitem ht.typeIs PyProof.Rows.entry_tuple_getitem ?_ (PyProof.Rows.args_tuple_getitem _ _)))
  show wpAny _ _ (Builtin.Tuple.tupleItemsOf (.ref t) >>= _) _ _ s
  refine wpAny_bind (PyProof.Rows.tupleItemsOf_ ht ?_)
  refine wpAny_bind (wpAny_typeOf hTs ?_)
  rw [if_pos (by decide)]
  refine wpAny_bind (applied_rev (n := items.size) hs pl pu ps ?_)
  show wpAny _ _ (if (((items.size : Int) - 1) == 0 && (-1 : Int) == 1 && items.size == items.size) = true then _ else _) _ _ s
  rw [if_neg (by rw [Bool.and_comm (((items.size : Int) - 1) == 0)]; exact Bool.false_ne_true), pick_rev]
  first
    | exact wpAny_bind (m := Builtin.Tuple.tupleExact _) (wpAny_newObj_type (wpAny_pure ⟨_, rfl, wpAny_pure h⟩) htake)
    | exact wpAny_bind (m := Builtin.Tuple.tupleExact _) (wpAny_newObj_type (wpAny_bind (wpAny_pure (wpAny_pure ⟨_, rfl, wpAny_pure h⟩))) htake)
    | exact wpAny_bind (wpAny_bind (m := Builtin.Tuple.tupleExact _) (wpAny_newObj_type (wpAny_pure (wpAny_pure ⟨_, rfl, wpAny_pure h⟩)) htake))
    | exact wpAny_bind (wpAny_bind (m := Builtin.Tuple.tupleExact _) (wpAny_newObj_type (wpAny_pure ⟨_, rfl, wpAny_pure h⟩) htake))
end
section
variable {X : Cx}
def tRevT (K : PySem.W.Frag) (te : TE) : TE := fun σ H Q => te σ H fun x H1 => ∃ a xs, x = .ref a ∧ SqT K H1 a xs ∧ ∀ p, H1 p = none → Q (.ref p) (upd H1 p (.tup xs.reverse))
theorem pe_revT {K : PySem.W.Frag} {e : Expr} {te : TE} {k : Nat} {p1 p2 p3 pos : Pos} (he : PE X e te) (hK : X.K = K := by rfl) : PE X (.Subscript e (.Slice none none (some (.UnaryOp .USub (.Constant (.int 1) k p1) p2)) p3) pos) (tRevT K te) := by
  subst hK
  refine ⟨fun pins s σ H Q I h => ?_⟩
  refine Subscript_ (thn (he.run pins s σ H _ I h) fun v s1 ⟨x, H1, I1, r1, q1⟩ => ?_)
  obtain ⟨a, xs, ex, hx, q⟩ := q1
  subst ex
  cases r1
  have hst : PO X (some (.UnaryOp .USub (.Constant (.int 1) k p1) p2)) (tPart (tUn (rU fun i => .int (-i)) (tC (.int 1)))) := po_some (pe_un un_neg pe_int)
  refine wpAny_Slice (thn (po_none.run pins s1 σ H1 (fun o H2 => o = none ∧ H2 = H1) I1 ⟨rfl, rfl⟩) fun vl s2 ⟨l, H2, I2, pl, el, e2⟩ => ?_)
  subst el e2
  refine thn (po_none.run pins s2 σ H2 (fun o H3 => o = none ∧ H3 = H2) I2 ⟨rfl, rfl⟩) fun vu s3 ⟨u, H3, I3, pu, eu, e3⟩ => ?_
  subst eu e3
  refine thn (hst.run pins s3 σ H3 (fun o H4 => o = some (-1) ∧ H4 = H3) I3 ⟨1, rfl, -1, rfl, rfl, rfl⟩) fun vs s4 ⟨o, H4, I4, ps, eo, e4⟩ => ?_
  subst eo e4
  have I5 : L2.Inv X pins σ H4 { s4 with heap := s4.heap.push { cls := .type "slice", data := .fields #[vl, vu, vs] } } := I4.kept (t' := s4.toks) fun b ob q => Heap.get?_push_of_some _ q
  obtain ⟨its, r, ht, hz⟩ := I5.tuple hx
  have hlen := r.length
  show wpAny (model X.prog X.w) X.A (subscriptTail e (.Slice none none (some (.UnaryOp .USub (.Constant (.int 1) k p1) p2)) p3) (.ref a) (.ref s4.heap.objs.size)) (EP X pins σ Q) X.xe { s4 with heap := s4.heap.push { cls := .type "slice", data := .fields #[vl, vu, vs] } }
  refine tail_any (ops := [.ref a, .ref s4.heap.objs.size]) ht.typeIs (PyProof.Rows.slot_tuple_getitem.lookup) ?_ (by with_unfolding_all rfl)
  refine getItem_tuple_rev ht (Heap.IsSliceOf.new _ vl vu vs) pl pu ps ?_ (by rw [List.size_toArray]; omega)
  refine ⟨.ref _, _, I5.laid (t' := s4.toks) (o := .tup xs.reverse) (fun b ob q => Heap.get?_push_of_some _ q) (Nat.le_refl _) ?_, rfl, q _ (I5.hok.fresh (Nat.le_refl _))⟩
  exact ⟨by rw [List.length_reverse]; exact hz, _, r.reverse, IsTup.new _ _⟩
end
theorem cutV_mem {xs : List V} {lo hi : Option Int} {x : V} (h : x ∈ cutV xs lo hi) : x ∈ xs := by
  unfold cutV at h
  exact List.mem_of_mem_drop (List.mem_of_mem_take h)
end FF
namespace FF
open PySem PySem.Spec PyProof.Rows L2
variable [LT]
/-! ### data: shapes and equality -/
structure Sh (k : Nat) (d : PyData) : Prop where
  lay : d.canLay0 = true
  dep : d.depth ≤ k
theorem Sh.shaped {k : Nat} {d : PyData} (h : Sh k d) (hk : k ≤ 64 := by decide) : SeqAt.shaped d = true := by
  unfold SeqAt.shaped
  rw [h.lay, decide_eq_true (Nat.le_trans h.dep hk)]
  rfl
theorem Sh.int {i : Int} : Sh 0 (.int i) := ⟨rfl, Nat.le_refl _⟩
theorem Sh.none : Sh 0 .none := ⟨rfl, Nat.le_refl _⟩
theorem Sh.bool {b : Bool} : Sh 0 (.bool b) := ⟨rfl, Nat.le_refl _⟩
theorem sh_all {k : Nat} : ∀ {ds : List PyData}, (∀ d ∈ ds, Sh k d) → PyData.canLayAll0 ds = true ∧ PyData.depthAll ds ≤ k
  | [], _ => ⟨rfl, Nat.zero_le _⟩
  | d :: r, h => by
    obtain ⟨h1, h2⟩ := sh_all (ds := r) fun x hx => h x (List.mem_cons_of_mem _ hx)
    have h3 := h d List.mem_cons_self
    refine ⟨?_, ?_⟩
    · show (d.canLay0 && PyData.canLayAll0 r) = true
      rw [h3.lay, h1]
      rfl
    · show max d.depth (PyData.depthAll r) ≤ k
      exact Nat.max_le.mpr ⟨h3.dep, h2⟩
theorem Sh.tup {k : Nat} {ds : List PyData} (h : ∀ d ∈ ds, Sh k d) : Sh (k + 1) (.tuple ds) := ⟨(sh_all h).1, Nat.succ_le_succ (sh_all h).2⟩
theorem Sh.lst {k : Nat} {ds : List PyData} (h : ∀ d ∈ ds, Sh k d) : Sh (k + 1) (.list ds) := ⟨(sh_all h).1, Nat.succ_le_succ (sh_all h).2⟩
end FF
namespace FF
open PySem PySem.Spec PyProof.Rows L2
variable [LT]
/-! ### pieces -/
theorem upTo_mem {n x : Int} : x ∈ upTo n ↔ 0 ≤ x ∧ x < n := by
  refine ⟨mem_upTo, fun ⟨h0, h1⟩ => ?_⟩
  unfold upTo
  exact List.mem_map.mpr ⟨x.toNat, List.mem_range.mpr (by omega), by omega⟩
theorem upTo_up (n : Int) : (upTo n).Pairwise (· < ·) := by
  unfold upTo
  rw [List.pairwise_map]
  exact List.pairwise_lt_range.imp fun h => by omega
def least (g : Int → Int) (x : Int) : Bool := (upTo x).all fun y => !decide (g y = g x)
def piece (g : Int → Int) (n x : Int) : List Int := (upTo n).filter fun y => decide (g y = g x)
/-- rising lists with the same members are one -/
theorem up_same : ∀ {l m : List Int}, l.Pairwise (· < ·) → m.Pairwise (· < ·) → (∀ x, x ∈ l ↔ x ∈ m) → l = m
  | [], [], _, _, _ => rfl
  | [], b :: s, _, _, h => by have := (h b).mpr List.mem_cons_self; cases this
  | a :: r, [], _, _, h => by have := (h a).mp List.mem_cons_self; cases this
  | a :: r, b :: s, hl, hm, h => by
    obtain ⟨l1, l2⟩ := List.pairwise_cons.mp hl
    obtain ⟨m1, m2⟩ := List.pairwise_cons.mp hm
    have e : a = b := by
      have h1 := (h a).mp List.mem_cons_self
      have h2 := (h b).mpr List.mem_cons_self
      rcases List.mem_cons.mp h1 with z | z
      · exact z
      · rcases List.mem_cons.mp h2 with y | y
        · exact y.symm
        · have := l1 b y
          have := m1 a z
          omega
    subst e
    congr 1
    refine up_same l2 m2 fun x => ⟨fun hx => ?_, fun hx => ?_⟩
    · rcases List.mem_cons.mp ((h x).mp (List.mem_cons_of_mem _ hx)) with z | z
      · have := l1 x hx
        omega
      · exact z
    · rcases List.mem_cons.mp ((h x).mpr (List.mem_cons_of_mem _ hx)) with z | z
      · have := m1 x hx
        omega
      · exact z
/-- tuples of ints -/
def Lots (H : Hp) (rs : List V) (pss : List (List Int)) : Prop := Paired (fun (r : V) (ls : List Int) => ∃ q, r = .ref q ∧ H q = some (.tup (ls.map V.int))) rs pss
theorem Lots.mono {H H' : Hp} {rs : List V} {pss : List (List Int)} (h : Lots H rs pss) (k : ∀ q xs, H q = some (.tup xs) → H' q = some (.tup xs)) : Lots H' rs pss := L2.Paired.mapP h fun _ _ ⟨q, e, z⟩ => ⟨q, e, k q _ z⟩
theorem Lots.ke {H H' : Hp} {rs : List V} {pss : List (List Int)} (h : Lots H rs pss) (k : Ke H H') : Lots H' rs pss := h.mono fun _ _ => k.tup
theorem Lots.new {H : Hp} {p : Addr} {o : HO} {rs : List V} {pss : List (List Int)} (h : Lots H rs pss) (k : H p = none) : Lots (upd H p o) rs pss := h.mono fun _ _ => tup_new k
theorem Lots.put {H : Hp} {p : Addr} {o : HO} {ys : List V} {rs : List V} {pss : List (List Int)} (h : Lots H rs pss) (k : H p = some (.lst ys)) : Lots (upd H p o) rs pss := h.mono fun q xs e => by rw [upd_ne (ne_of e k (fun z => nomatch z))]; exact e
theorem Lots.length {H : Hp} {rs : List V} {pss : List (List Int)} (h : Lots H rs pss) : rs.length = pss.length := Paired.length h
theorem Lots.append {H : Hp} : ∀ {rs qs : List V} {ps us : List (List Int)}, Lots H rs ps → Lots H qs us → Lots H (rs ++ qs) (ps ++ us)
  | _, _, _, _, .nil, b => b
  | _, _, _, _, .cons r t, b => .cons r (Lots.append t b)
theorem Lots.one {H : Hp} {q : Addr} {ls : List Int} (h : H q = some (.tup (ls.map V.int))) : Lots H [.ref q] [ls] := .cons ⟨q, rfl, h⟩ .nil
theorem Lots.get {H : Hp} : ∀ {rs : List V} {ps : List (List Int)} {i : Nat} {r : V}, Lots H rs ps → rs[i]? = some r → ∃ ls q, ps[i]? = some ls ∧ r = .ref q ∧ H q = some (.tup (ls.map V.int))
  | _, _, _, _, .nil, e => by simp at e
  | _, _, 0, _, .cons (b := t) ⟨q, e1, e2⟩ _, e => by simp at e; subst e; exact ⟨t, q, rfl, e1, e2⟩
  | _, _, i + 1, r, .cons _ t, e => by
    obtain ⟨u, q, h1, h2, h3⟩ := Lots.get (i := i) (r := r) t (by simpa using e)
    exact ⟨u, q, by simpa using h1, h2, h3⟩
theorem Lots.dp {K : PySem.W.Frag} {H : Hp} : ∀ {rs : List V} {ps : List (List Int)}, Lots H rs ps → DpAll K H rs (ps.map fun l => .tuple (l.map PyData.int))
  | _, _, .nil => .nil
  | _, _, .cons ⟨q, e, h⟩ t => by
    subst e
    exact .cons (.tup (sqT_of h) (dp_ints _)) (Lots.dp t)
end FF
namespace FF
open PySem PySem.Spec PyProof.Rows L2
variable [LT]
/-! ### max and set of tuples of ints -/
section
variable {X : Cx} {K : PySem.W.Frag}
theorem fold_max : ∀ (ns : List Int) (n : Int), (ns.foldl max n ∈ n :: ns) ∧ ∀ y ∈ n :: ns, y ≤ ns.foldl max n
  | [], n => ⟨List.mem_cons_self, fun y hy => by rw [List.mem_singleton.mp hy]; exact Int.le_refl _⟩
  | a :: r, n => by
    obtain ⟨h1, h2⟩ := fold_max r (max n a)
    have e : (a :: r).foldl max n = r.foldl max (max n a) := rfl
    rw [e]
    refine ⟨?_, fun y hy => ?_⟩
    · rcases List.mem_cons.mp h1 with z | z
      · rw [z]
        rcases Int.le_total n a with c | c
        · rw [Int.max_eq_right c]; exact List.mem_cons_of_mem _ List.mem_cons_self
        · rw [Int.max_eq_left c]; exact List.mem_cons_self
      · exact List.mem_cons_of_mem _ (List.mem_cons_of_mem _ z)
    · have hm := h2 (max n a) List.mem_cons_self
      rcases List.mem_cons.mp hy with z | hy
      · omega
      · rcases List.mem_cons.mp hy with z | hy
        · omega
        · exact h2 y (List.mem_cons_of_mem _ hy)
def rMaxT (K : PySem.W.Frag) : List V → Hp → VK → Prop := fun vs H Q => ∃ (a : Addr) (ns : List Int), vs = [V.ref a] ∧ SqT K H a (ns.map V.int) ∧ 0 < ns.length ∧ ∀ m, m ∈ ns → (∀ y, y ∈ ns → y ≤ m) → Q (.int m) H
theorem maxT (hc : X.calm = true) (hu : X.A.units + 64 < cLine) (h : X.K = K := by rfl) : CallR X (.builtin "max") (rMaxT K) := by
  subst h
  intro pins s σ H vs us Q I r hq
  obtain ⟨a, ns, rfl, hs, hne, q⟩ := hq
  obtain ⟨its, rv, hl, _⟩ := I.tuple hs
  rw [Vals.ref1 r]
  cases ns with
  | nil => exact absurd hne (Nat.lt_irrefl 0)
  | cons n ns =>
    obtain ⟨as, hr⟩ := Dp.readsAll I _ _ its (dp_ints (n :: ns)) rv
    have hd : PyData.depthAll ((n :: ns).map PyData.int) = 0 := PySem.W.ke_depthAll (n :: ns)
    refine PySem.W.max_tuple_data (x := .int n) (xs := ns.map PyData.int) (I.ok.hd hc) (show s.heap.IsTuple a its.toArray from hl) (by simpa using hr) ⟨fun x hx y hy => ?_, fun x hx => ?_⟩ (by show X.A.units + 1 + PyData.depthAll ((n :: ns).map PyData.int) < cLine; rw [hd]; omega) fun i v h' tk bs hi rd hk => ?_
    · obtain ⟨i, _, rfl⟩ := List.mem_map.mp (show x ∈ (n :: ns).map PyData.int from hx)
      obtain ⟨j, _, rfl⟩ := List.mem_map.mp (show y ∈ (n :: ns).map PyData.int from hy)
      rfl
    · obtain ⟨i, _, rfl⟩ := List.mem_map.mp (show x ∈ (n :: ns).map PyData.int from hx)
      intro z
      cases z
    · rw [PySem.W.maxD_ints] at rd
      cases rd with
      | int t =>
        exact ⟨.int _, H, I.kept hk, ⟨_, rfl⟩, q _ (fold_max ns n).1 (fold_max ns n).2⟩
def rSetT (K : PySem.W.Frag) (w : World) : List V → Hp → VK → Prop := fun xs H Q => ∃ (l : Addr) (ns : List Int), xs = [V.ref l] ∧ SqT K H l (ns.map V.int) ∧ ns.length ≤ 1000 ∧
  ∀ (p : Addr) (c : Nat), H p = none → c ≤ ns.length → Q (.ref p) (upd H p (SetO w p (fun j => decide (j ∈ ns)) c))
theorem cr_setT (hc : X.calm = true) : CallR X (.type "set") (rSetT X.K X.w) := by
  intro pins s σ H xs us Q I r h
  obtain ⟨l, ns, rfl, hl, hb, q⟩ := h
  rw [Vals.ref1 r]
  obtain ⟨its, rv, pl, hz⟩ := I.tuple hl
  refine call_set_tupI (w := X.w) ns (I.ok.hd hc) (show s.heap.IsTuple l its.toArray from pl) (by simpa using RZ.intsAre_vals rv) (by unfold scanBound; omega) fun h' tk c R hcn k => ?_
  exact ⟨.ref s.heap.objs.size, _, I.laid (t' := tk) k (Nat.le_refl _) (setO_new R), rfl, q _ c (I.hok.fresh (Nat.le_refl _)) hcn⟩
end
end FF
namespace FF
open PySem PySem.Spec PyProof.Rows L2
variable [LT]
/-! ### ties between parts -/
def between (ps : List Int) (ts : List (Int × Int)) : Nat := (ts.filter fun t => !decide (hat ps t.1 = hat ps t.2)).length
theorem hat_get {ns : List Int} {i : Nat} {v : Int} (h : ns[i]? = some v) : hat ns (i : Int) = v := by
  unfold hat
  rw [List.getD_eq_getElem?_getD, show ((i : Int)).toNat = i by omega, h]
  rfl
/-! ### ties between and within are all -/
theorem inside_cons (ls : List Int) (t : Int × Int) (ts : List (Int × Int)) : inside ls (t :: ts) = (if (decide (t.1 ∈ ls) && decide (t.2 ∈ ls)) = true then 1 else 0) + inside ls ts := by
  unfold inside
  rw [List.filter_cons]
  split
  · rw [List.length_cons, Nat.add_comm]
  · rw [Nat.zero_add]
theorem sum_add {α : Type} (f g : α → Int) : ∀ l : List α, (l.map fun x => f x + g x).sum = (l.map f).sum + (l.map g).sum
  | [] => rfl
  | x :: r => by
    simp only [List.map_cons, List.sum_cons]
    rw [sum_add f g r]
    omega
theorem sum_one {m : Int} (g : Int → Int) : ∀ {l : List Int}, l.Nodup → m ∈ l → (∀ x ∈ l, x ≠ m → g x = 0) → (l.map g).sum = g m
  | x :: r, nd, hm, h0 => by
    obtain ⟨n1, n2⟩ := List.nodup_cons.mp nd
    rw [List.map_cons, List.sum_cons]
    by_cases e : x = m
    · subst e
      have : (r.map g).sum = 0 := by
        have hz : ∀ y ∈ r, g y = 0 := fun y hy => h0 y (List.mem_cons_of_mem _ hy) fun c => n1 (c ▸ hy)
        clear h0 nd n2 hm n1
        induction r with
        | nil => rfl
        | cons y r ih =>
          rw [List.map_cons, List.sum_cons, hz y List.mem_cons_self, ih fun z hz' => hz z (List.mem_cons_of_mem _ hz')]
          rfl
      omega
    · rcases List.mem_cons.mp hm with c | hm
      · exact absurd c.symm e
      · rw [h0 x List.mem_cons_self e, sum_one g n2 hm fun y hy => h0 y (List.mem_cons_of_mem _ hy)]
        omega
theorem sum_zero {α : Type} (g : α → Int) : ∀ {l : List α}, (∀ x ∈ l, g x = 0) → (l.map g).sum = 0
  | [], _ => rfl
  | x :: r, h => by
    rw [List.map_cons, List.sum_cons, h x List.mem_cons_self, sum_zero g fun y hy => h y (List.mem_cons_of_mem _ hy)]
    rfl
/-- ties join: both ends have one root -/
theorem rstep_keep {r : Int → Int} {t : Int × Int} {x y : Int} (h : r x = r y) : rstep r t x = rstep r t y := by
  unfold rstep
  rw [h]
theorem foldR_keep : ∀ {ts : List (Int × Int)} {r : Int → Int} {x y : Int}, r x = r y → foldR r ts x = foldR r ts y
  | [], _, _, _, h => h
  | t :: ts, r, _, _, h => foldR_keep (ts := ts) (r := rstep r t) (rstep_keep h)
theorem foldR_tie : ∀ {ts : List (Int × Int)} {r : Int → Int} {t : Int × Int}, t ∈ ts → foldR r ts t.1 = foldR r ts t.2
  | u :: ts, r, t, h => by
    rcases List.mem_cons.mp h with rfl | h
    · refine foldR_keep (ts := ts) (r := rstep r t) ?_
      unfold rstep
      rw [if_pos rfl]
      by_cases c : r t.1 = r t.2
      · rw [if_pos c]
      · rw [if_neg c]
    · exact foldR_tie (ts := ts) (r := rstep r u) h
theorem rep_ints (n : Nat) : (List.replicate n [V.int 0]).flatten = (List.replicate n (0 : Int)).map V.int := by
  induction n with
  | zero => rfl
  | succ n ih =>
    rw [List.replicate_succ, List.replicate_succ, List.flatten_cons, ih, List.map_cons]
    rfl
end FF
namespace FF
open PySem PySem.Spec PyProof.Rows L2
variable [LT]
/-! ### tuple * int, from 0 on -/
section
variable {X : Cx}
end
end FF
namespace FF
open PySem PySem.Spec PyProof.Rows L2
variable [LT]
/-! ### hung forests -/
structure Nd where
  top : Int
  dep : Int
  up : Option (Int × Int)
def Nd.vals (d : Nd) : List V := match d.up with
  | none => [.int d.top, .int d.dep, .non, .non]
  | some (y, m) => [.int d.top, .int d.dep, .int y, .int m]
theorem Nd.vals1 (d : Nd) : d.vals[1]? = some (.int d.dep) := by
  unfold Nd.vals
  split <;> rfl
abbrev Nds := List (Option Nd)
/-! ### steps from point to point -/
/-- a tie m leads from x to y -/
def Leads (ts : List (Int × Int)) (m x y : Int) : Prop := ts.getD m.toNat (0, 0) = (x, y) ∨ ts.getD m.toNat (0, 0) = (y, x)
theorem Leads.symm {ts : List (Int × Int)} {m x y : Int} (h : Leads ts m x y) : Leads ts m y x := h.elim .inr .inl
/-! ### hung in part -/
theorem while_gh {α : Type} {c : TT} {tb : TS} {D : Ends} {σ : L2.St} {H : Hp} (Pv : α → L2.St → Hp → Prop) (μ : α → Nat) (a0 : α) (h0 : Pv a0 σ H)
    (hs : ∀ a σ H, Pv a σ H → c σ H fun b H1 => if b = true then tb { D with nx := fun σ' H' => ∃ a', μ a' < μ a ∧ Pv a' σ' H', ct := fun σ' H' => ∃ a', μ a' < μ a ∧ Pv a' σ' H', bk := D.nx } σ H1 else D.nx σ H1)
    (mono : ∀ σ H Q Q', (∀ b H1, Q b H1 → Q' b H1) → c σ H Q → c σ H Q') : tWhile c tb D σ H := by
  refine ⟨fun m σ H => ∃ a, m = μ a ∧ Pv a σ H, ⟨_, a0, rfl, h0⟩, ?_⟩
  rintro m σ H ⟨a, rfl, p⟩
  refine mono σ H _ _ (fun b H1 q => ?_) (hs a σ H p)
  cases b with
  | true => exact ⟨_, fun σ' H' ⟨a', l, p'⟩ => ⟨_, l, a', rfl, p'⟩, q⟩
  | false => exact q
theorem Leads.rng {n : Int} {ts : List (Int × Int)} {m x y : Int} (h : Leads ts m x y) (ok : TOk n [ts.getD m.toNat (0, 0)]) : 0 ≤ y ∧ y < n := by
  have := ok _ List.mem_cons_self
  rcases h with h | h
  · rw [h] at this
    dsimp only at this
    omega
  · rw [h] at this
    dsimp only at this
    omega
end FF
namespace FF
open PySem PySem.Spec PyProof.Rows L2
variable [LT]
/-! ### ways along ties -/
inductive Way (ts : List (Int × Int)) : Int → List Int → Int → Prop where
  | nil (x : Int) : Way ts x [] x
  | cons {m x y z : Int} {l : List Int} : Leads ts m x y → Way ts y l z → Way ts x (m :: l) z
theorem Way.append {ts : List (Int × Int)} {x y z : Int} {l k : List Int} (h : Way ts x l y) (g : Way ts y k z) : Way ts x (l ++ k) z := by
  induction h with
  | nil x => exact g
  | cons hl _ ih => exact .cons hl (ih g)
theorem Way.snoc {ts : List (Int × Int)} {x y z m : Int} {l : List Int} (h : Way ts x l y) (g : Leads ts m y z) : Way ts x (l ++ [m]) z := h.append (.cons g (.nil z))
theorem Way.rev {ts : List (Int × Int)} {x y : Int} {l : List Int} (h : Way ts x l y) : Way ts y l.reverse x := by
  induction h with
  | nil x => exact .nil x
  | cons hl _ ih =>
    rw [List.reverse_cons]
    exact ih.snoc hl.symm
section
variable {n : Int} {ts : List (Int × Int)} {ms : List Int} {ds : Nds}
end
section
variable {n : Int} {ts : List (Int × Int)} {ms : List Int} {ds : Nds} {a0 b0 a b : Int} {xs ys : List Int}
/-- the ring that comes of it -/
structure IsRing (ts : List (Int × Int)) (ms : List Int) (a b : Int) (ns : List Int) : Prop where
  way : Way ts a ns b
  nd : ns.Nodup
  mem : ∀ m ∈ ns, m ∈ ms
end
/-! ### joined by the ties: the roots tell -/
theorem foldR_fine {g : Int → Int} : ∀ {L : List (Int × Int)} {r : Int → Int}, (∀ x y, r x = r y → g x = g y) → (∀ t ∈ L, g t.1 = g t.2) → ∀ x y, foldR r L x = foldR r L y → g x = g y
  | [], _, h, _, x, y, e => h x y e
  | t :: L, r, h, k, x, y, e => by
    refine foldR_fine (L := L) (r := rstep r t) (fun x y e => ?_) (fun u hu => k u (List.mem_cons_of_mem _ hu)) x y e
    have kt := k t List.mem_cons_self
    unfold rstep at e
    by_cases c1 : r x = r t.2
    · rw [if_pos c1] at e
      by_cases c2 : r y = r t.2
      · exact h x y (c1.trans c2.symm)
      · rw [if_neg c2] at e
        exact (h x t.2 c1).trans (kt.symm.trans (h t.1 y e))
    · rw [if_neg c1] at e
      by_cases c2 : r y = r t.2
      · rw [if_pos c2] at e
        exact (h x t.1 e).trans (kt.trans (h t.2 y c2.symm))
      · rw [if_neg c2] at e
        exact h x y e
theorem Leads.foldR {ts : List (Int × Int)} {ms : List Int} {m x y : Int} (hm : m ∈ ms) (h : Leads ts m x y) : FF.foldR (fun x => x) (pick ts ms) x = FF.foldR (fun x => x) (pick ts ms) y := by
  have hp : ts.getD m.toNat (0, 0) ∈ pick ts ms := List.mem_map.mpr ⟨m, hm, rfl⟩
  have := foldR_tie (r := fun x => x) hp
  rcases h with h | h
  · rw [h] at this
    exact this
  · rw [h] at this
    exact this.symm
section
variable {n : Int} {ts : List (Int × Int)} {ms : List Int} {ds : Nds}
end
theorem nums_at {f : Int} : ∀ {i : Nat} {ws : List V} {m : Int}, m ∈ numsFrom f i ws → ∃ k : Nat, m = ((i + k : Nat) : Int) ∧ ws[k]? = some (.int f)
  | _, [], _, h => nomatch h
  | i, x :: ws, m, h => by
    rcases List.mem_append.mp h with h | h
    · by_cases e : x = V.int f
      · rw [if_pos e] at h
        exact ⟨0, by rw [List.mem_singleton.mp h]; rfl, by rw [e]; rfl⟩
      · rw [if_neg e] at h
        cases h
    · obtain ⟨k, e1, e2⟩ := nums_at h
      exact ⟨k + 1, by rw [e1]; congr 1; omega, by simpa using e2⟩
theorem Way.inv {ts : List (Int × Int)} {x z m : Int} {l : List Int} (h : Way ts x (m :: l) z) : ∃ y, Leads ts m x y ∧ Way ts y l z := by
  cases h with
  | cons a b => exact ⟨_, a, b⟩
theorem Way.stop {ts : List (Int × Int)} {x z : Int} (h : Way ts x [] z) : x = z := by
  cases h
  rfl
theorem nub_of_nd : ∀ {ns : List Int}, ns.Nodup → (nub ns).length = ns.length := fun {ns} h => nd_eq (nub_nd ns) h fun x => mem_nub ns x
end FF
namespace FF
open PySem PySem.Spec PyProof.Rows L2
variable [LT]
/-! ### sum of a tuple of ints -/
section
variable {X : Cx} {K : PySem.W.Frag}
end
end FF
namespace FF
open PySem PySem.Spec PyProof.Rows L2
variable [LT]
/-! ### first fit in fewer forests -/
theorem FF.take {k : Int} {ts : List (Int × Int)} {ws : List V} (h : FF k ts ws) (i : Nat) : FF k (ts.take i) (ws.take i) := by
  refine ⟨by rw [List.length_take, List.length_take, h.len], fun j t x ht hx => ?_⟩
  have hj : j < i := by
    have := (List.getElem?_eq_some_iff.mp ht).1
    rw [List.length_take] at this
    omega
  rw [List.getElem?_take_of_lt hj] at ht hx
  rw [List.take_take, List.take_take, Nat.min_eq_left (by omega)]
  exact h.each j t x ht hx
theorem FF.joined {k : Int} {ts : List (Int × Int)} {ws : List V} (h : FF k ts ws) (i : Nat) (t : Int × Int) (f : Int) : (foldR (fun x => x) (layerOf (ts.take i) (ws.take i) f) t.1 = foldR (fun x => x) (layerOf (ts.take i) (ws.take i) f) t.2) ↔ freeB (ts.take i) (ws.take i) t f = false := by
  rw [freeB_eq ((h.take i).forest f)]
  constructor
  · intro e
    rw [decide_eq_true e]
    rfl
  · intro e
    by_cases c : foldR (fun x => x) (layerOf (ts.take i) (ws.take i) f) t.1 = foldR (fun x => x) (layerOf (ts.take i) (ws.take i) f) t.2
    · exact c
    · rw [decide_eq_false c] at e
      cases e
theorem layerOf_congr {f : Int} : ∀ {ts : List (Int × Int)} {ws ws' : List V}, ws.length = ws'.length → (∀ (j : Nat) x y, ws[j]? = some x → ws'[j]? = some y → (x = V.int f ↔ y = V.int f)) → layerOf ts ws f = layerOf ts ws' f
  | [], _, _, _, _ => rfl
  | t :: ts, [], [], _, _ => rfl
  | t :: ts, x :: ws, y :: ws', hl, h => by
    have ih := layerOf_congr (f := f) (ts := ts) (ws := ws) (ws' := ws') (by simpa using hl) fun j a b ha hb => h (j + 1) a b (by simpa using ha) (by simpa using hb)
    have h0 := h 0 x y rfl rfl
    unfold layerOf at ih ⊢
    rw [List.zip_cons_cons, List.zip_cons_cons, List.filter_cons, List.filter_cons]
    by_cases c : x = V.int f
    · rw [if_pos (decide_eq_true c), if_pos (decide_eq_true (h0.mp c)), List.map_cons, List.map_cons, ih]
    · rw [if_neg (by rw [decide_eq_false c]; decide), if_neg (by rw [decide_eq_false fun z => c (h0.mpr z)]; decide), ih]
theorem FF.more {k K : Int} {ts : List (Int × Int)} {ws ws' : List V} (h : FF k ts ws) (h' : FF K ts ws') (hk : k ≤ K) : ∀ (i : Nat) x y, ws[i]? = some x → ws'[i]? = some y → ∀ f, f < k → (x = V.int f ↔ y = V.int f) := by
  intro i
  induction i using Nat.strongRecOn with
  | _ i ih =>
    intro x y hx hy f hf
    have hil := (List.getElem?_eq_some_iff.mp hx).1
    have hit : i < ts.length := by rw [← h.len]; exact hil
    have ht := List.getElem?_eq_getElem hit
    have c := h.each i _ x ht hx
    have c' := h'.each i _ y ht hy
    have fr : ∀ g, g < k → freeB (ts.take i) (ws.take i) ts[i] g = freeB (ts.take i) (ws'.take i) ts[i] g := fun g hg => by
      unfold freeB
      rw [layerOf_congr (ws := ws.take i) (ws' := ws'.take i) (by rw [List.length_take, List.length_take, h.len, h'.len]) fun j a b ha hb => ?_]
      have hj : j < i := by
        have := (List.getElem?_eq_some_iff.mp ha).1
        rw [List.length_take] at this
        omega
      rw [List.getElem?_take_of_lt hj] at ha hb
      exact ih j hj a b ha hb g hg
    constructor
    · intro e
      subst e
      cases c with
      | at_ f0 f1 ff fb =>
        cases c' with
        | out z =>
          have := z f f0 (by omega)
          rw [← fr f hf, ff] at this
          cases this
        | @at_ g g0 g1 gf gb =>
          by_cases c1 : g < f
          · have := fb g g0 c1
            rw [fr g (by omega), gf] at this
            cases this
          · by_cases c2 : f < g
            · have := gb f f0 c2
              rw [← fr f hf, ff] at this
              cases this
            · rw [show g = f by omega]
    · intro e
      subst e
      cases c' with
      | at_ g0 g1 gf gb =>
        cases c with
        | out z =>
          have := z f g0 hf
          rw [fr f hf, gf] at this
          cases this
        | @at_ g f0 f1 ff fb =>
          by_cases c1 : f < g
          · have := fb f g0 c1
            rw [fr f hf, gf] at this
            cases this
          · by_cases c2 : g < f
            · have := gb g f0 c2
              rw [← fr g f1, ff] at this
              cases this
            · rw [show g = f by omega]
end FF
namespace FF
open PySem PySem.Spec PyProof.Rows L2
variable [LT]
/-! ### two points with many ties -/
def dueV (k : Int) (i : Nat) : V := if (i : Int) < k then .int i else .non
def due (k : Int) (m : Nat) : List V := (List.range m).map (dueV k)
end FF
namespace FF
open PySem PySem.Spec PyProof.Rows L2
variable [LT]
/-! ### forests in any order; ties on the way -/
theorem ringlessF_ker : ∀ (L : List (Int × Int)) {r r' : Int → Int}, (∀ x y, r x = r y ↔ r' x = r' y) → ringlessF r L = ringlessF r' L
  | [], _, _, _ => rfl
  | t :: L, r, r', h => by
    show (if r t.1 = r t.2 then false else ringlessF (rstep r t) L) = (if r' t.1 = r' t.2 then false else ringlessF (rstep r' t) L)
    by_cases c : r t.1 = r t.2
    · rw [if_pos c, if_pos ((h _ _).mp c)]
    · rw [if_neg c, if_neg (fun z => c ((h _ _).mpr z))]
      refine ringlessF_ker L fun x y => ?_
      have h1 := h x y
      have h2 := h x t.2
      have h3 := h y t.2
      have h4 := h x t.1
      have h5 := h y t.1
      have h6 := h t.1 x
      have h7 := h t.1 y
      unfold rstep
      by_cases a1 : r x = r t.2
      · rw [if_pos a1, if_pos (h2.mp a1)]
        by_cases a2 : r y = r t.2
        · rw [if_pos a2, if_pos (h3.mp a2)]
          exact ⟨fun _ => rfl, fun _ => rfl⟩
        · rw [if_neg a2, if_neg (fun z => a2 (h3.mpr z))]
          exact h7
      · rw [if_neg a1, if_neg (fun z => a1 (h2.mpr z))]
        by_cases a2 : r y = r t.2
        · rw [if_pos a2, if_pos (h3.mp a2)]
          exact h4
        · rw [if_neg a2, if_neg (fun z => a2 (h3.mpr z))]
          exact h1
theorem foldR_sub {r : Int → Int} {L L' : List (Int × Int)} (h : ∀ t ∈ L, t ∈ L') (x y : Int) (e : foldR r L x = foldR r L y) : foldR r L' x = foldR r L' y :=
  foldR_fine (fun _ _ z => foldR_keep z) (fun t ht => foldR_tie (r := r) (h t ht)) x y e
theorem ringlessF_swap (r : Int → Int) (t u : Int × Int) (L : List (Int × Int)) : ringlessF r (t :: u :: L) = ringlessF r (u :: t :: L) := by
  show (if r t.1 = r t.2 then false else if rstep r t u.1 = rstep r t u.2 then false else ringlessF (rstep (rstep r t) u) L) = (if r u.1 = r u.2 then false else if rstep r u t.1 = rstep r u t.2 then false else ringlessF (rstep (rstep r u) t) L)
  by_cases c1 : r t.1 = r t.2
  · rw [if_pos c1]
    by_cases c2 : r u.1 = r u.2
    · rw [if_pos c2]
    · rw [if_neg c2, if_pos]
      unfold rstep
      rw [c1]
  · rw [if_neg c1]
    by_cases c2 : r u.1 = r u.2
    · rw [if_pos c2, if_pos]
      unfold rstep
      rw [c2]
    · rw [if_neg c2]
      by_cases c3 : rstep r t u.1 = rstep r t u.2
      · rw [if_pos c3, if_pos]
        unfold rstep at c3 ⊢
        split at c3 <;> split at c3 <;> split <;> split <;> omega
      · rw [if_neg c3, if_neg]
        · refine ringlessF_ker L fun x y => ?_
          have k1 := foldR_sub (r := r) (L := [t, u]) (L' := [u, t]) (fun w hw => by simp at hw ⊢; exact hw.symm) x y
          have k2 := foldR_sub (r := r) (L := [u, t]) (L' := [t, u]) (fun w hw => by simp at hw ⊢; exact hw.symm) x y
          exact ⟨k1, k2⟩
        · intro z
          refine c3 ?_
          unfold rstep at z ⊢
          split at z <;> split at z <;> split <;> split <;> omega
theorem ringlessF_perm {L L' : List (Int × Int)} (h : L.Perm L') : ∀ r : Int → Int, ringlessF r L = ringlessF r L' := by
  induction h with
  | nil => exact fun _ => rfl
  | cons t _ ih =>
    intro r
    show (if r t.1 = r t.2 then false else ringlessF (rstep r t) _) = (if r t.1 = r t.2 then false else ringlessF (rstep r t) _)
    rw [ih]
  | swap t u L => exact fun r => ringlessF_swap r u t L
  | trans _ _ a b => exact fun r => (a r).trans (b r)
theorem forest_apart {r : Int → Int} {L L' : List (Int × Int)} {t : Int × Int} (hp : L.Perm (L' ++ [t])) (h : ringlessF r L = true) : foldR r L' t.1 ≠ foldR r L' t.2 := by
  rw [ringlessF_perm hp r] at h
  cases e : ringlessF r L' with
  | false =>
    rw [ringlessF_bad L' r [t] e] at h
    cases h
  | true =>
    rw [ringlessF_more e, Bool.not_eq_true'] at h
    exact of_decide_eq_false h
theorem but_perm {x : Int} {ms : List Int} (hn : ms.Nodup) (hx : x ∈ ms) : ms.Perm (but x ms ++ [x]) := by
  induction ms with
  | nil => cases hx
  | cons m ms ih =>
    obtain ⟨h1, h2⟩ := List.nodup_cons.mp hn
    by_cases c : m = x
    · subst c
      have e : but m (m :: ms) = ms := by
        unfold but
        rw [List.filter_cons_of_neg (by simp), List.filter_eq_self.mpr]
        intro y hy
        have c : ¬ y = m := fun z => h1 (by rw [← z]; exact hy)
        rw [decide_eq_false c]
        rfl
      rw [e]
      exact (List.perm_append_singleton m ms).symm
    · have hx' : x ∈ ms := (List.mem_cons.mp hx).resolve_left fun z => c z.symm
      have e : but x (m :: ms) = m :: but x ms := by
        unfold but
        rw [List.filter_cons_of_pos]
        rw [decide_eq_false c]
        rfl
      rw [e]
      exact (ih h2 hx').cons m
theorem mem_but {g x : Int} {ms : List Int} : x ∈ but g ms ↔ x ∈ ms ∧ x ≠ g := by
  unfold but
  rw [List.mem_filter, Bool.not_eq_true', decide_eq_false_iff_not]
theorem Way.joined {ts : List (Int × Int)} {ms : List Int} {x y : Int} {l : List Int} (h : Way ts x l y) (hm : ∀ m ∈ l, m ∈ ms) : foldR (fun x => x) (pick ts ms) x = foldR (fun x => x) (pick ts ms) y := by
  induction h with
  | nil x => rfl
  | cons hl _ ih => exact (hl.foldR (hm _ List.mem_cons_self)).trans (ih fun m hm' => hm m (List.mem_cons_of_mem _ hm'))
theorem Way.cut {ts : List (Int × Int)} : ∀ {l : List Int} {x z m : Int}, Way ts x l z → m ∈ l → ∃ (l1 l2 : List Int) (u v : Int), l = l1 ++ m :: l2 ∧ Way ts x l1 u ∧ Leads ts m u v ∧ Way ts v l2 z
  | k :: l, x, z, m, h, hm => by
    obtain ⟨y, h1, h2⟩ := h.inv
    by_cases c : m = k
    · subst c
      exact ⟨[], l, x, y, rfl, .nil x, h1, h2⟩
    · obtain ⟨l1, l2, u, v, e, w1, w2, w3⟩ := h2.cut ((List.mem_cons.mp hm).resolve_left c)
      exact ⟨k :: l1, l2, u, v, by rw [e]; rfl, .cons h1 w1, w2, w3⟩
/-- a tie of a forest is on the way from a to b just if without it they are apart -/
theorem IsRing.mem_iff {ts : List (Int × Int)} {ms ns : List Int} {a b : Int} (h : IsRing ts ms a b ns) (hf : ringlessF (fun x => x) (pick ts ms) = true) (hn : ms.Nodup) (x : Int) : x ∈ ns ↔ x ∈ ms ∧ foldR (fun x => x) (pick ts (but x ms)) a ≠ foldR (fun x => x) (pick ts (but x ms)) b := by
  constructor
  · intro hx
    have hxm := h.mem x hx
    refine ⟨hxm, fun e => ?_⟩
    obtain ⟨l1, l2, u, v, el, w1, w2, w3⟩ := h.way.cut hx
    have hnd := h.nd
    rw [el] at hnd
    have hnd' := List.nodup_append.mp hnd
    have hx1 : ∀ m ∈ l1, m ∈ but x ms := fun m hm => mem_but.mpr ⟨h.mem m (by rw [el]; exact List.mem_append_left _ hm), hnd'.2.2 m hm x List.mem_cons_self⟩
    have hx2 : ∀ m ∈ l2, m ∈ but x ms := fun m hm => mem_but.mpr ⟨h.mem m (by rw [el]; exact List.mem_append_right _ (List.mem_cons_of_mem _ hm)), fun z => (List.nodup_cons.mp hnd'.2.1).1 (z ▸ hm)⟩
    have e1 := w1.joined hx1
    have e2 := w3.joined hx2
    have e3 : foldR (fun x => x) (pick ts (but x ms)) u = foldR (fun x => x) (pick ts (but x ms)) v := e1.symm.trans (e.trans e2.symm)
    have hp : (pick ts ms).Perm (pick ts (but x ms) ++ [ts.getD x.toNat (0, 0)]) := by
      rw [show [ts.getD x.toNat (0, 0)] = pick ts [x] from rfl, ← pick_append]
      exact (but_perm hn hxm).map _
    have ha := forest_apart hp hf
    rcases w2 with w2 | w2
    · rw [w2] at ha
      exact ha e3
    · rw [w2] at ha
      exact ha e3.symm
  · intro ⟨_, hne⟩
    by_cases c : x ∈ ns
    · exact c
    · exact absurd (h.way.joined fun m hm => mem_but.mpr ⟨h.mem m hm, fun z => c (by rw [← z]; exact hm)⟩) hne
end FF
namespace FF
open PySem PySem.Spec PyProof.Rows L2
variable [LT]
/-! ### a search along ties -/
theorem mem_nums {f : Int} : ∀ {i : Nat} {ws : List V} {k : Nat}, ws[k]? = some (.int f) → ((i + k : Nat) : Int) ∈ numsFrom f i ws := by
  intro i ws k h
  obtain ⟨hk, e⟩ := List.getElem?_eq_some_iff.mp h
  have e1 : ws = ws.take k ++ [V.int f] ++ ws.drop (k + 1) := take_rest h
  have app : ∀ (us : List V) (vs : List V) (i : Nat), ∀ x ∈ numsFrom f i us, x ∈ numsFrom f i (us ++ vs) := fun us vs => by
    induction vs generalizing us with
    | nil => intro i x hx; rw [List.append_nil]; exact hx
    | cons v vs ih =>
      intro i x hx
      rw [show us ++ v :: vs = (us ++ [v]) ++ vs by simp]
      refine ih _ i x ?_
      rw [nums_snoc]
      exact List.mem_append_left _ hx
  rw [e1]
  refine app _ _ i _ ?_
  rw [nums_snoc, if_pos rfl, List.length_take, Nat.min_eq_left (by omega)]
  exact List.mem_append_right _ List.mem_cons_self
end FF
namespace FF
open PySem PySem.Spec PyProof.Rows L2
variable [LT]
/-! ### pushes -/
theorem nums_nd (f : Int) : ∀ (i : Nat) (ws : List V), (numsFrom f i ws).Nodup
  | _, [] => List.nodup_nil
  | i, x :: r => by
    show ((if x = V.int f then [(i : Int)] else []) ++ numsFrom f (i + 1) r).Nodup
    rw [List.nodup_append]
    refine ⟨by split <;> simp, nums_nd f (i + 1) r, fun a ha b hb z => ?_⟩
    have := nums_bd f (i + 1) r b hb
    split at ha
    · have := List.mem_singleton.mp ha
      omega
    · cases ha
open Classical in
noncomputable def joinB (ts : List (Int × Int)) (ws : List V) (e : Int × Int) : Bool := decide (foldR (fun x => x) (layerOf ts ws e.2) (ts.getD e.1.toNat (0, 0)).1 = foldR (fun x => x) (layerOf ts ws e.2) (ts.getD e.1.toNat (0, 0)).2)
/-- the tie x is on the ring of the entry e -/
def OnRing (ts : List (Int × Int)) (ws : List V) (e : Int × Int) (x : Int) : Prop := x ∈ numsFrom e.2 0 ws ∧ foldR (fun x => x) (pick ts (but x (numsFrom e.2 0 ws))) (ts.getD e.1.toNat (0, 0)).1 ≠ foldR (fun x => x) (pick ts (but x (numsFrom e.2 0 ws))) (ts.getD e.1.toNat (0, 0)).2
open Classical in
noncomputable def pushB (ts : List (Int × Int)) (ws : List V) : List (Int × Int) → Bool
  | [] => true
  | [e] => !joinB ts ws e
  | e :: e' :: r => (joinB ts ws e && decide (OnRing ts ws e e'.1)) && pushB ts ws (e' :: r)
def layB (ws : List V) (e : Int × Int) : Bool := decide (ws[e.1.toNat]? = some (.int e.2))
end FF
namespace FF
open PySem PySem.Spec PyProof.Rows L2
variable [LT]
/-! ### zip of a list and a tuple, either way -/
end FF
namespace FF
open PySem PySem.Spec PyProof.Rows L2
variable [LT]
/-! ### t.count of a tuple of ints; l[i] op= e -/
section
variable {X : Cx} {K : PySem.W.Frag}
def rCntT (K : PySem.W.Frag) : V → List V → Hp → VK → Prop := fun x xs H Q => ∃ (p : Addr) (ns : List Int) (k : Int), x = .ref p ∧ xs = [.int k] ∧ SqT K H p (ns.map V.int) ∧ Q (.int (ns.count k : Nat)) H
theorem mt_tcount (h : X.K = K := by rfl) : MtR X "tuple.count" (rCntT K) := by
  subst h
  intro pins s σ H x xs v us Q I rx rxs h
  obtain ⟨p, ns, k, rfl, rfl, hs, q⟩ := h
  cases rx
  obtain ⟨u, rfl, ru⟩ := rxs.one
  obtain ⟨t, rfl⟩ := ru
  obtain ⟨its, rv, ⟨⟨cls, dd, data, sl⟩, ho, hc, n, hd⟩, hlen⟩ := I.tuple hs
  simp only at hc hd
  subst hc hd
  have hi := ints_of_vals rv
  refine call_meets PySem.F.slot_tuple_count ⟨_, ho, rfl⟩ PySem.F.entry_tuple_count (PySem.F.args_tuple_count_2 _ _)
    (SeqAt.tuple_countAt p its.toArray n dd sl (.int k t) (eqk k)) ⟨ho, fun y hy => (eqk_gives hi y (by simpa using hy)).at _ _, ?_⟩
  have ec : its.toArray.toList.countP (eqk k) = ns.count k := eqk_count hi
  refine ⟨.int (ns.count k : Nat), H, I.tok _, ⟨s.toks, ?_⟩, q⟩
  show Value.int ((its.toArray.toList.countP (eqk k) : Nat) : Int) s.toks = Value.int ((ns.count k : Nat) : Int) s.toks
  rw [ec]
theorem get_listK (h : X.K = K := by rfl) : PGet X (rIxL K) := by
  subst h
  intro pins s σ H x y v u Q I rx ry h
  obtain ⟨p, xs, i, z, rfl, rfl, hq, he, q⟩ := h
  cases rx
  obtain ⟨t, rfl⟩ := ry
  obtain ⟨its, r, pl, hz⟩ := I.list hq
  obtain ⟨j, h1, h2, h3, h4, h5⟩ := atI_get he
  obtain ⟨w, ew, rw'⟩ := r.get h2
  have hl := r.length
  have hn := line63
  have fin : EP X pins σ Q w s := ⟨z, H, I, rw', q⟩
  by_cases h0 : 0 ≤ i
  · have hj : i.toNat = j := by
      rw [seqIndex_of h0 h5] at h1
      exact Option.some.inj h1
    exact wpAny_getItem_list pl.isList h0 (by omega) (by rw [hj]; simpa using ew) fin
  · have hj : (i + (its.toArray.size : Int)).toNat = j := by
      rw [seqIndex_neg (by omega) h4] at h1
      rw [List.size_toArray, ← hl]
      exact Option.some.inj h1
    exact wpAny_getItem_list_neg pl.isList (by omega) (by rw [List.size_toArray] <;> omega) (by omega) (by rw [hj]; simpa using ew) fin
end
/-! ### outs of ways -/
def outsL (n : Int) (ws : List Int) : List Int := (upTo n).map fun p => (ws.count p : Int)
theorem outsL_length (n : Int) (ws : List Int) : (outsL n ws).length = n.toNat := by unfold outsL; rw [List.length_map, upTo_length]
theorem outsL_hat {n p : Int} {ws : List Int} (h0 : 0 ≤ p) (h1 : p < n) : hat (outsL n ws) p = (ws.count p : Int) := by
  unfold outsL
  rw [hat_map (f := fun p => (ws.count p : Int)) h0 (by rw [upTo_length]; omega), hat_upTo h0 h1]
theorem ext_hat {as bs : List Int} (hl : as.length = bs.length) (h : ∀ x : Int, 0 ≤ x → x < as.length → hat as x = hat bs x) : as = bs := by
  refine List.ext_getElem hl fun i h1 h2 => ?_
  have := h (i : Int) (by omega) (by omega)
  unfold hat at this
  rw [Int.toNat_natCast, List.getD_eq_getElem?_getD, List.getD_eq_getElem?_getD, List.getElem?_eq_getElem h1, List.getElem?_eq_getElem h2] at this
  exact this
theorem outsL_snoc {n p : Int} {ws : List Int} (h0 : 0 ≤ p) (h1 : p < n) : (outsL n ws).set p.toNat (hat (outsL n ws) p + 1) = outsL n (ws ++ [p]) := by
  refine ext_hat (by rw [List.length_set, outsL_length, outsL_length]) fun x x0 x1 => ?_
  rw [List.length_set, outsL_length] at x1
  rw [hat_set h0 (by rw [outsL_length]; omega) x0, outsL_hat (p := x) x0 (by omega), outsL_hat h0 h1, outsL_hat (p := x) (ws := ws ++ [p]) x0 (by omega), List.count_append]
  by_cases e : x = p
  · subst e
    rw [if_pos rfl]
    simp
  · rw [if_neg e]
    have : List.count x [p] = 0 := List.count_eq_zero.mpr fun z => e (List.mem_singleton.mp z)
    rw [this]
    simp
theorem outsL_nil (n : Int) : outsL n [] = List.replicate n.toNat 0 := by
  unfold outsL
  refine List.ext_getElem (by rw [List.length_map, upTo_length, List.length_replicate]) fun i h1 h2 => ?_
  rw [List.getElem_map, List.getElem_replicate]
  rfl
def WOk (ts : List (Int × Int)) (ws : List Int) : Prop := ws.length = ts.length ∧ ∀ (i : Nat) (t : Int × Int) (w : Int), ts[i]? = some t → ws[i]? = some w → w = t.1 ∨ w = t.2
theorem WOk.bd {n : Int} {ts : List (Int × Int)} {ws : List Int} (h : WOk ts ws) (ok : TOk n ts) : ∀ w ∈ ws, 0 ≤ w ∧ w < n := fun w hw => by
  obtain ⟨i, hi, e⟩ := List.mem_iff_getElem.mp hw
  have hi2 : i < ts.length := by rw [← h.1]; exact hi
  have := h.2 i _ w (List.getElem?_eq_getElem hi2) (by rw [List.getElem?_eq_getElem hi, e])
  obtain ⟨a, b, c⟩ := ok _ (List.getElem_mem hi2)
  omega
theorem WOk.nil : WOk [] [] := ⟨rfl, fun i t w h => by simp at h⟩
theorem WOk.snoc {ts : List (Int × Int)} {ws : List Int} {t : Int × Int} {w : Int} (h : WOk ts ws) (hw : w = t.1 ∨ w = t.2) : WOk (ts ++ [t]) (ws ++ [w]) := by
  refine ⟨by rw [List.length_append, List.length_append, h.1]; rfl, fun i t' w' h1 h2 => ?_⟩
  by_cases hi : i < ts.length
  · rw [List.getElem?_append_left hi] at h1
    rw [List.getElem?_append_left (by rw [h.1]; exact hi)] at h2
    exact h.2 i t' w' h1 h2
  · have hi2 : i < ts.length + 1 := by
      have := (List.getElem?_eq_some_iff.mp h1).1
      rw [List.length_append] at this
      exact this
    have e : i = ts.length := by omega
    subst e
    rw [List.getElem?_append_right (Nat.le_refl _), Nat.sub_self] at h1
    rw [List.getElem?_append_right (by rw [h.1]; exact Nat.le_refl _), h.1, Nat.sub_self] at h2
    cases h1
    cases h2
    exact hw
end FF
namespace FF
open PySem PySem.Spec PyProof.Rows L2
variable [LT]
/-! ### tuples that are known to the object: methods can be asked of them -/
def TF (H : Hp) (a : Addr) (xs : List V) : Prop := ∃ o : Obj, H a = some (.frz o (.tup xs)) ∧ o.dict = none
theorem TF.sq {K : PySem.W.Frag} {H : Hp} {a : Addr} {xs : List V} (h : TF H a xs) : SqT K H a xs := by
  obtain ⟨o, e, _⟩ := h
  exact .inl (.inr ⟨o, e⟩)
theorem TF.ke {H H' : Hp} {a : Addr} {xs : List V} (h : TF H a xs) (k : Ke H H') : TF H' a xs := by
  obtain ⟨o, e, d⟩ := h
  exact ⟨o, k.at_ a _ e (fun _ z => nomatch z) fun z => z, d⟩
theorem TF.new {H : Hp} {p a : Addr} {o : HO} {xs : List V} (h : TF H a xs) (k : H p = none) : TF (upd H p o) a xs := h.ke (Ke.new k)
theorem TF.dk {H H' : Hp} {p a : Addr} {xs : List V} (h : TF H a xs) (k : Dk p H H') (d : Deck H p) : TF H' a xs := by
  obtain ⟨o, e, d'⟩ := h
  obtain ⟨ds, e2, _⟩ := d
  exact ⟨o, k.k.at_ a _ e (fun _ z => nomatch z) (ne_of e e2 (fun z => nomatch z)), d'⟩
theorem TF.put {H : Hp} {p a : Addr} {o : HO} {xs ys : List V} (h : TF H a xs) (k : H p = some (.lst ys)) : TF (upd H p o) a xs := by
  obtain ⟨o, e, d'⟩ := h
  exact ⟨o, by rw [upd_ne (ne_of e k (fun z => nomatch z))]; exact e, d'⟩
theorem sqT_kx {S : Addr → Prop} {K : PySem.W.Frag} {H H' : Hp} {p : Addr} {xs : List V} (h : SqT K H p xs) (a : Kx S H H') (n : ¬ S p) : SqT K H' p xs := by
  rcases h with (h | ⟨o, h⟩) | h
  · exact .inl (.inl (a.at_ p _ h (fun _ z => nomatch z) n))
  · exact .inl (.inr ⟨o, a.at_ p _ h (fun _ z => nomatch z) n⟩)
  · exact .inr h
theorem sqT_ke {K : PySem.W.Frag} {H H' : Hp} {p : Addr} {xs : List V} (h : SqT K H p xs) (a : Ke H H') : SqT K H' p xs := sqT_kx h a fun z => z
section
variable {X : Cx} {K : PySem.W.Frag}
def rTupF (K : PySem.W.Frag) : List V → Hp → VK → Prop := fun xs H Q => ∃ p ys, xs = [.ref p] ∧ SqL K H p ys ∧ ∀ (l : Addr) (o : Obj), H l = none → o.dict = none → Q (.ref l) (upd H l (.frz o (.tup ys)))
theorem tupleF (h : X.K = K := by rfl) : CallR X (.type "tuple") (rTupF K) := by
  subst h
  intro pins s σ H xs us Q I r h
  obtain ⟨p, ys, rfl, hq, q⟩ := h
  obtain ⟨u, rfl, rx⟩ := vals1 r
  cases rx
  obtain ⟨its, r', pl, hz⟩ := I.list hq
  have hlen := r'.length
  refine call_tuple_list pl.isList (fun h' kp => ?_) (by simp only [List.size_toArray] <;> omega)
  have I1 : Inv X pins σ H { s with heap := h' } := I.kept (t' := s.toks) kp
  have I2 : Inv X pins σ (upd H h'.objs.size (.frz { cls := .type "tuple", data := .seq its.toArray } (.tup ys))) { s with heap := h'.push { cls := .type "tuple", data := .seq its.toArray } } :=
    I1.laid (t' := s.toks) (fun b o e => Heap.get?_push_of_some _ e) (Nat.le_refl _) (show ObjOk X.prog X.w _ _ _ (.frz _ (.tup ys)) from ⟨Heap.get?_push_size _ rfl, hz, its, r', IsTup.new _ _⟩)
  exact ⟨.ref h'.objs.size, _, I2, rfl, q _ _ (I1.hok.fresh (Nat.le_refl _)) rfl⟩
def tBMF (r : V → List V → Hp → VK → Prop) (to : TE) (t : TA) : TE := fun σ H Q => to σ H fun x H1 => (∃ a ys, x = .ref a ∧ TF H1 a ys) ∧ t σ H1 fun xs H2 => r x xs H2 Q
variable {o e : Expr} {es : List Expr} {to : TE} {t : TA} {name : Str} {apos cpos : Pos} {id : String} {r : V → List V → Hp → VK → Prop}
theorem pe_bmF (slot : Slot "tuple" name id) (hty : typeOf (.builtin id) = pure (.type "method_descriptor")) (hm : MtR X id r) (ho : PE X o to) (ha : PA X (e :: es) t)
    (hbase : attributeBase o name X.env (eval o X.env) = eval o X.env := by rfl)
    (hfew : ((backTo cpos (starEach (e :: es) X.env)).all (fun x => !x.1) && (backToKw cpos (keywordEach [] X.env)).all (fun x => x.1.isSome)
      && decide ((e :: es).length + ([] : List Keyword).length + (if ([] : List Keyword).isEmpty then 0 else 1) < 30)) = true := by rfl)
    (hline : (apos.endLine == cpos.line) = true := by rfl) (hs : starEach (e :: es) X.env = (false, eval e X.env) :: starEach es X.env := by rfl) (hplain : (backTo cpos (starEach es X.env)).any (·.1) = false := by rfl) :
    PE X (.Call (.Attribute o name apos) (e :: es) [] cpos) (tBMF r to t) := by
  refine ⟨fun pins s σ H Q I h => ?_⟩
  refine wpAny_Call_method_late hbase hfew hline rfl (thn (ho.run pins s σ H _ I h) fun v s1 ⟨x, H1, I1, r1, ty, q1⟩ => ?_)
  obtain ⟨a, ys, rfl, oo, hoo, hdn⟩ := ty
  cases r1
  obtain ⟨e0, _, its, rv, hT⟩ := I1.hok a _ hoo
  refine ⟨"tuple", id, PySem.F.plainAttrs_tuple, slot, hty, hT.typeIs, fun b eb => ?_, ?_⟩
  · cases eb
    exact ⟨oo, e0, hdn⟩
  have hA := ha.run cpos pins s1 σ H1 _ I1 q1
  rw [hs] at hA ⊢
  refine Calls.callWith_builtin (by show (false || (backTo cpos (starEach es X.env)).any (·.1)) = false; rw [hplain] <;> rfl) (Calls.evalArgs_plain ?_)
  exact thn hA fun us s2 ⟨vs, H2, I2, r2, q2⟩ => hm pins s2 σ H2 (.ref a) vs (.ref a) us Q I2 rfl r2 q2
end
/-! ### a thing: a tuple or not -/
inductive ThK (K : PySem.W.Frag) (H : Hp) : V → Option (List V) → Prop where
  | no {v : V} {nm : String} (h : TyN H v nm) (hn : nm ≠ "tuple") : ThK K H v none
  | yes {a : Addr} {xs : List V} (h : SqT K H a xs) (ht : TyX K H (.ref a) (.type "tuple")) (hx : ∀ x ∈ xs, ∃ n, TyN H x n) : ThK K H (.ref a) (some xs)
theorem Tpl.k {K : PySem.W.Frag} {H : Hp} {v : V} {o : Option (List V)} (h : Tpl H v o) : ThK K H v o := by
  cases h with
  | no h hn => exact .no h hn
  | yes h hx => exact .yes (sqT_of h) (TyN.tup h).x hx
theorem TF.k {K : PySem.W.Frag} {H : Hp} {a : Addr} {xs : List V} (h : TF H a xs) (hx : ∀ x ∈ xs, ∃ n, TyN H x n) : ThK K H (.ref a) (some xs) := by
  have h' := h.sq (K := K)
  obtain ⟨o, e, _⟩ := h
  exact .yes h' (.fTuple e) hx
theorem TF.ints {K : PySem.W.Frag} {H : Hp} {a : Addr} {ws : List Int} (h : TF H a (ws.map V.int)) : ThK K H (.ref a) (some (ws.map V.int)) := h.k (ty_ints ws)
theorem isi_no {K : PySem.W.Frag} {H : Hp} {v : V} {nm : String} (h : TyN H v nm) (hn : nm ≠ "tuple") : PySem.W.kitOne K (.type nm) (.type "tuple") = some false := by
  have := h.isi (K := K) (c := "tuple") (.inr (.inr (.inl rfl)))
  rw [this]
  cases h <;> first | rfl | exact absurd rfl hn
theorem isi_yes {K : PySem.W.Frag} : PySem.W.kitOne K (.type "tuple") (.type "tuple") = some true := kit_ty (by decide +kernel)
/-! ### ways as things -/
def isEnd (t : Int × Int) (x : V) : Bool := match x with
  | .int i => decide (i = t.1) || decide (i = t.2)
  | _ => false
def endsB : List (Int × Int) → List V → Bool
  | t :: ts, x :: xs => isEnd t x && endsB ts xs
  | [], [] => true
  | _, _ => false
def waysO (ts : List (Int × Int)) : Option (List V) → Bool
  | some xs => endsB ts xs
  | none => false
theorem endsB_len : ∀ {ts : List (Int × Int)} {xs : List V}, endsB ts xs = true → xs.length = ts.length
  | [], [], _ => rfl
  | _ :: _, _ :: _, h => by
    have h : (_ && endsB _ _) = true := h
    rw [Bool.and_eq_true] at h
    rw [List.length_cons, List.length_cons, endsB_len h.2]
  | [], _ :: _, h => by cases h
  | _ :: _, [], h => by cases h
theorem endsB_iff : ∀ {ts : List (Int × Int)} {xs : List V}, xs.length = ts.length → (endsB ts xs = true ↔ ∀ (i : Nat) (t : Int × Int) (x : V), ts[i]? = some t → xs[i]? = some x → isEnd t x = true)
  | [], [], _ => ⟨fun _ i t x h => by simp at h, fun _ => rfl⟩
  | t :: ts, x :: xs, hl => by
    have ih := endsB_iff (ts := ts) (xs := xs) (Nat.succ.inj hl)
    show (isEnd t x && endsB ts xs) = true ↔ _
    rw [Bool.and_eq_true, ih]
    refine ⟨fun h i t' x' h1 h2 => ?_, fun h => ⟨h 0 t x rfl rfl, fun i t' x' h1 h2 => h (i + 1) t' x' h1 h2⟩⟩
    cases i with
    | zero => cases h1; cases h2; exact h.1
    | succ i => exact h.2 i t' x' h1 h2
  | [], _ :: _, h => by cases h
  | _ :: _, [], h => by cases h
theorem WOk.ends {ts : List (Int × Int)} {ws : List Int} (h : WOk ts ws) : endsB ts (ws.map V.int) = true := by
  refine (endsB_iff (by rw [List.length_map]; exact h.1)).mpr fun i t x h1 h2 => ?_
  obtain ⟨w, hw, rfl⟩ := int_at h2
  show (decide (w = t.1) || decide (w = t.2)) = true
  rw [Bool.or_eq_true, decide_eq_true_eq, decide_eq_true_eq]
  exact h.2 i t w h1 hw
theorem ends_ints : ∀ {ts : List (Int × Int)} {xs : List V}, endsB ts xs = true → xs = (intsOf xs).map V.int ∧ WOk ts (intsOf xs)
  | [], [], _ => ⟨rfl, WOk.nil⟩
  | t :: ts, x :: xs, h => by
    have h : (isEnd t x && endsB ts xs) = true := h
    rw [Bool.and_eq_true] at h
    obtain ⟨e, w⟩ := ends_ints h.2
    obtain ⟨h1, _⟩ := h
    cases x with
    | int i =>
      have h1 : (decide (i = t.1) || decide (i = t.2)) = true := h1
      rw [Bool.or_eq_true, decide_eq_true_eq, decide_eq_true_eq] at h1
      refine ⟨?_, ?_⟩
      · show V.int i :: xs = V.int i :: (intsOf xs).map V.int
        rw [← e]
      · show WOk (t :: ts) (i :: intsOf xs)
        refine ⟨by rw [List.length_cons, List.length_cons, w.1], fun j t' w' e1 e2 => ?_⟩
        cases j with
        | zero => cases e1; cases e2; exact h1
        | succ j => exact w.2 j t' w' e1 e2
    | _ => cases h1
  | [], _ :: _, h => by cases h
  | _ :: _, [], h => by cases h
def rwO (n : Int) (ts : List (Int × Int)) (d : Int) (o : Option (List V)) : Bool := waysO ts o && match o with
  | some xs => (outsL n (intsOf xs)).all fun x => decide (x ≤ d)
  | none => true
theorem all_max {ns : List Int} {m d : Int} (h : m ∈ ns) (hx : ∀ y, y ∈ ns → y ≤ m) : (ns.all fun x => decide (x ≤ d)) = decide (m ≤ d) := by
  by_cases e : m ≤ d
  · rw [decide_eq_true e, List.all_eq_true]
    exact fun x hm => decide_eq_true (Int.le_trans (hx x hm) e)
  · rw [decide_eq_false e, Bool.eq_false_iff]
    exact fun z => e (of_decide_eq_true (List.all_eq_true.mp z m h))
theorem WOk.rw {n : Int} {ts : List (Int × Int)} {ws : List Int} {d m : Int} (h : WOk ts ws) (hm : m ∈ outsL n ws) (hx : ∀ y, y ∈ outsL n ws → y ≤ m) : rwO n ts d (some (ws.map V.int)) = decide (m ≤ d) := by
  show (endsB ts (ws.map V.int) && (outsL n (intsOf (ws.map V.int))).all fun x => decide (x ≤ d)) = _
  rw [h.ends, Bool.true_and, intsOf_map, all_max hm hx]
def crowdO (n : Int) (ts : List (Int × Int)) (d : Int) (o : Option (List V)) : Bool := lotO n o && match o with
  | some xs => decide ((inside (intsOf xs) ts : Int) > d * (xs.length : Int))
  | none => false
theorem Lot.crowd {n : Int} {ls : List Int} (h : Lot n ls) (ts : List (Int × Int)) (d : Int) : crowdO n ts d (some (ls.map V.int)) = decide ((inside ls ts : Int) > d * (ls.length : Int)) := by
  show (lotO n (some (ls.map V.int)) && decide ((inside (intsOf (ls.map V.int)) ts : Int) > d * ((ls.map V.int).length : Int))) = _
  rw [h.o, Bool.true_and, intsOf_map, List.length_map]
end FF
namespace FF
open PySem PySem.Spec PyProof.Rows L2
variable [LT]
/-! ### a def whose last parameter has a default -/
end FF
namespace FF
open PySem PySem.Spec PyProof.Rows L2
variable [LT]
/-! ### data of tuples, to a depth -/
theorem Sh.up {k l : Nat} {d : PyData} (h : Sh k d) (hk : k ≤ l) : Sh l d := ⟨h.1, Nat.le_trans h.2 hk⟩
/-! ### ties in another order -/
/-! ### partings as things -/
/-! ### the greatest of some -/
def mx : List Int → Int
  | [] => 0
  | n :: ns => ns.foldl max n
theorem mx_is {ns : List Int} {m : Int} (h : m ∈ ns) (hx : ∀ y, y ∈ ns → y ≤ m) : m = mx ns := by
  cases ns with
  | nil => cases h
  | cons n ns =>
    have := fold_max ns n
    exact Int.le_antisymm (this.2 m h) (hx _ this.1)
end FF
namespace FF
open PySem PySem.Spec PyProof.Rows L2
variable [LT]
/-! ### how many are laid -/
end FF
namespace FF
open PySem PySem.Spec PyProof.Rows L2
variable [LT]
/-! ### rising tuples as things -/
def risO (m : Int) : Option (List V) → Bool
  | none => false
  | some xs => rising (m + 1) 0 xs
theorem lotO_ris (n : Int) (o : Option (List V)) : lotO n o = (risO (n - 1) o && match o with
  | none => false
  | some xs => !xs.isEmpty) := by
  match o with
  | none => rfl
  | some [] => rfl
  | some (v :: r) =>
    show rising n 0 (v :: r) = (rising (n - 1 + 1) 0 (v :: r) && true)
    rw [Bool.and_true, Int.sub_add_cancel]
theorem sqL_ke {K : PySem.W.Frag} {H H' : Hp} {p : Addr} {xs : List V} (h : SqL K H p xs) (a : Ke H H') : SqL K H' p xs := by
  rcases h with (h | ⟨o, h⟩) | h
  · exact .inl (.inl (a.lst h))
  · exact .inl (.inr ⟨o, a.at_ p _ h (fun _ z => nomatch z) fun z => z⟩)
  · exact .inr h
/-! ### how many ties a forest has within a lot -/
theorem nub_glue {a b : Int} {hs : List Int} (ha : a ∈ hs) (hb : b ∈ hs) (h : a ≠ b) : (nub (hs.map fun x => if x = b then a else x)).length + 1 = (nub hs).length := by
  have e : (b :: nub (hs.map fun x => if x = b then a else x)).length = (nub hs).length := by
    refine nd_eq (List.nodup_cons.mpr ⟨fun z => ?_, nub_nd _⟩) (nub_nd _) fun x => ?_
    · rw [mem_nub] at z
      obtain ⟨y, hy, e⟩ := List.mem_map.mp z
      split at e
      · exact h e
      · rename_i hn
        exact hn e
    · rw [mem_nub, List.mem_cons, mem_nub]
      constructor
      · rintro (rfl | hx)
        · exact hb
        · obtain ⟨y, hy, e⟩ := List.mem_map.mp hx
          split at e
          · exact e ▸ ha
          · exact e ▸ hy
      · intro hx
        by_cases e : x = b
        · exact .inl e
        · exact .inr (List.mem_map.mpr ⟨x, hx, by rw [if_neg e]⟩)
  rw [← e, List.length_cons]
theorem lot_count {ls : List Int} : ∀ {ts : List (Int × Int)} {r : Int → Int}, ringlessF r ts = true → (∀ t ∈ ts, t.1 ∈ ls ∧ t.2 ∈ ls) → ts.length + (nub (ls.map (foldR r ts))).length = (nub (ls.map r)).length
  | [], r, _, _ => Nat.zero_add _
  | t :: ts, r, h, hm => by
    obtain ⟨h1, h2⟩ := hm t List.mem_cons_self
    have h : (if r t.1 = r t.2 then false else ringlessF (rstep r t) ts) = true := h
    have e : r t.1 ≠ r t.2 := fun z => by rw [if_pos z] at h; cases h
    rw [if_neg e] at h
    have hr := h
    have ih := lot_count (ls := ls) hr fun t' h' => hm t' (List.mem_cons_of_mem _ h')
    have g := nub_glue (hs := ls.map r) (List.mem_map.mpr ⟨_, h1, rfl⟩) (List.mem_map.mpr ⟨_, h2, rfl⟩) e
    have em : (ls.map r).map (fun x => if x = r t.2 then r t.1 else x) = ls.map (rstep r t) := by
      rw [List.map_map]
      rfl
    rw [em] at g
    have ih : ts.length + (nub (ls.map (foldR (rstep r t) ts))).length = (nub (ls.map (rstep r t))).length := ih
    show ts.length + 1 + (nub (ls.map (foldR (rstep r t) ts))).length = _
    omega
theorem lot_count_le {ls : List Int} {ts : List (Int × Int)} (h : ringlessF (fun x => x) ts = true) (hm : ∀ t ∈ ts, t.1 ∈ ls ∧ t.2 ∈ ls) (hn : ls.Nodup) (he : ls ≠ []) : ts.length + 1 ≤ ls.length := by
  have := lot_count h hm
  rw [List.map_id', nub_of_nd hn] at this
  have h1 : 0 < (nub (ls.map (foldR (fun x => x) ts))).length := by
    cases ls with
    | nil => exact absurd rfl he
    | cons x r =>
      have : foldR (fun x => x) ts x ∈ nub ((x :: r).map (foldR (fun x => x) ts)) := (mem_nub _ _).mpr List.mem_cons_self
      exact List.length_pos_of_mem this
  omega
theorem ringlessF_filter (p : Int × Int → Bool) {L : List (Int × Int)} (h : ringlessF (fun x => x) L = true) : ringlessF (fun x => x) (L.filter p) = true := by
  have hp : L.Perm (L.filter p ++ L.filter fun t => !p t) := (List.filter_append_perm p L).symm
  rw [ringlessF_perm hp] at h
  cases e : ringlessF (fun x => x) (L.filter p) with
  | true => rfl
  | false => rw [ringlessF_bad _ _ _ e] at h; cases h
/-- a forest has at most so many ties within a lot -/
theorem inside_forest {ls : List Int} {L : List (Int × Int)} (h : ringlessF (fun x => x) L = true) (hn : ls.Nodup) (he : ls ≠ []) : inside ls L + 1 ≤ ls.length := by
  refine lot_count_le (ringlessF_filter _ h) (fun t ht => ?_) hn he
  have := (List.mem_filter.mp ht).2
  rw [Bool.and_eq_true, decide_eq_true_eq, decide_eq_true_eq] at this
  exact this
end FF
namespace FF
open PySem PySem.Spec PyProof.Rows L2
variable [LT]
/-! ### laid ties, and how many of them lie within a lot -/
def laidM (ws : List V) (ms : List Int) : List Int := ms.filter fun m => !decide (ws.getD m.toNat .non = V.non)
def laidT (ts : List (Int × Int)) (ws : List V) : List (Int × Int) := ((ts.zip ws).filter fun p => !decide (p.2 = V.non)).map Prod.fst
theorem laidT_snoc {ts : List (Int × Int)} {ws : List V} (h : ts.length = ws.length) (t : Int × Int) (x : V) : laidT (ts ++ [t]) (ws ++ [x]) = laidT ts ws ++ if (!decide (x = V.non)) = true then [t] else [] := by
  unfold laidT
  rw [List.zip_append h, List.filter_append, List.map_append]
  congr 1
  show (List.filter (fun p : (Int × Int) × V => !decide (p.2 = V.non)) [(t, x)]).map Prod.fst = _
  rw [List.filter_cons]
  dsimp only
  split <;> rfl
theorem pick_laid {ts : List (Int × Int)} {ws : List V} (h : ws.length = ts.length) : ∀ i : Nat, i ≤ ts.length → pick ts (laidM ws (upTo i)) = laidT (ts.take i) (ws.take i)
  | 0, _ => rfl
  | i + 1, hi => by
    have ih := pick_laid h i (by omega)
    have e1 : ts[i]? = some (ts.getD i (0, 0)) := by rw [List.getD_eq_getElem?_getD, List.getElem?_eq_getElem (show i < ts.length by omega)]; rfl
    have e2 : ws[i]? = some (ws.getD i .non) := by rw [List.getD_eq_getElem?_getD, List.getElem?_eq_getElem (show i < ws.length by omega)]; rfl
    rw [take_next e1, take_next e2, laidT_snoc (by rw [List.length_take, List.length_take]; omega), ← ih]
    rw [show ((i + 1 : Nat) : Int) = (i : Int) + 1 by omega, upTo_snoc]
    unfold laidM
    rw [List.filter_append, pick_append]
    congr 1
    rw [List.filter_cons, Int.toNat_natCast]
    split
    · rw [List.filter_nil]
      rfl
    · rfl
theorem layerOf_cons (t : Int × Int) (ts : List (Int × Int)) (x : V) (ws : List V) (f : Int) : layerOf (t :: ts) (x :: ws) f = (if x = V.int f then [t] else []) ++ layerOf ts ws f := by
  unfold layerOf
  rw [List.zip_cons_cons, List.filter_cons]
  dsimp only
  by_cases e : x = V.int f
  · rw [if_pos e, if_pos (decide_eq_true e)]; rfl
  · rw [if_neg e, if_neg (by rw [decide_eq_false e]; decide)]; rfl
theorem laidT_cons (t : Int × Int) (ts : List (Int × Int)) (x : V) (ws : List V) : laidT (t :: ts) (x :: ws) = (if x = V.non then [] else [t]) ++ laidT ts ws := by
  unfold laidT
  rw [List.zip_cons_cons, List.filter_cons]
  dsimp only
  by_cases e : x = V.non
  · rw [if_pos e, if_neg (by rw [decide_eq_true e]; decide)]; rfl
  · rw [if_neg e, if_pos (by rw [decide_eq_false e]; rfl)]; rfl
theorem inside_app (ls : List Int) (ts us : List (Int × Int)) : inside ls (ts ++ us) = inside ls ts + inside ls us := by
  unfold inside
  rw [List.filter_append, List.length_append]
/-- the laid ties within a lot, forest by forest -/
theorem inside_laid {k : Int} (ls : List Int) : ∀ {ts : List (Int × Int)} {ws : List V}, ws.length = ts.length → (∀ x ∈ ws, x = V.non ∨ ∃ f, x = V.int f ∧ 0 ≤ f ∧ f < k) → (inside ls (laidT ts ws) : Int) = ((upTo k).map fun f => (inside ls (layerOf ts ws f) : Int)).sum
  | [], [], _, _ => by
    have : ∀ f ∈ upTo k, (fun f => (inside ls (layerOf [] [] f) : Int)) f = 0 := fun f _ => rfl
    exact (sum_zero _ this).symm
  | t :: ts, x :: ws, hl, hx => by
    have ih := inside_laid ls (ts := ts) (ws := ws) (Nat.succ.inj hl) fun y hy => hx y (List.mem_cons_of_mem _ hy)
    have e : (fun f => (inside ls (layerOf (t :: ts) (x :: ws) f) : Int)) = fun f => (inside ls (if x = V.int f then [t] else []) : Int) + (inside ls (layerOf ts ws f) : Int) := by
      funext f
      rw [layerOf_cons, inside_app, Int.natCast_add]
    rw [e, sum_add, laidT_cons, inside_app, Int.natCast_add, ih]
    congr 1
    rcases hx x List.mem_cons_self with rfl | ⟨f, rfl, f0, f1⟩
    · rw [if_pos rfl]
      refine (sum_zero _ fun f _ => ?_).symm
      rw [if_neg (fun z => nomatch z)]
      rfl
    · rw [if_neg (fun z => nomatch z)]
      rw [sum_one (m := f) _ (upTo_nd k) (upTo_mem.mpr ⟨f0, f1⟩) fun y _ hy => ?_]
      · rw [if_pos rfl]
      · rw [if_neg fun z => hy (V.int.inj z).symm]
        rfl
theorem sum_most {s : Int} {g : Int → Int} : ∀ {l : List Int}, (∀ x ∈ l, g x ≤ s) → (l.map g).sum ≤ l.length * s ∧ ((l.map g).sum = l.length * s ↔ ∀ x ∈ l, g x = s)
  | [], _ => by simp
  | x :: l, h => by
    obtain ⟨i1, i2⟩ := sum_most (l := l) fun y hy => h y (List.mem_cons_of_mem _ hy)
    have hx := h x List.mem_cons_self
    have e : ((x :: l).length : Int) * s = (l.length : Int) * s + s := by
      rw [List.length_cons, Int.natCast_add, Int.add_mul]
      show _ + 1 * s = _
      rw [Int.one_mul]
    rw [List.map_cons, List.sum_cons, e]
    generalize (l.length : Int) * s = c at *
    refine ⟨by omega, fun z y hy => ?_, fun z => ?_⟩
    · have h1 : (l.map g).sum = c := by omega
      rcases List.mem_cons.mp hy with rfl | hy
      · omega
      · exact i2.mp h1 y hy
    · have h1 := i2.mpr fun y hy => z y (List.mem_cons_of_mem _ hy)
      have h2 := z x List.mem_cons_self
      omega
/-- a laying's forests, and none beyond k -/
structure LayK (ts : List (Int × Int)) (k : Int) (ws : List V) : Prop where
  len : ws.length = ts.length
  each : ∀ x ∈ ws, x = V.non ∨ ∃ f, x = V.int f ∧ 0 ≤ f ∧ f < k
  tree : ∀ f, ringlessF (fun x => x) (layerOf ts ws f) = true
theorem LayK.more {ts : List (Int × Int)} {k k' : Int} {ws : List V} (h : LayK ts k ws) (hk : k ≤ k') : LayK ts k' ws := ⟨h.len, fun x hx => (h.each x hx).imp id fun ⟨f, e, f0, f1⟩ => ⟨f, e, f0, Int.lt_of_lt_of_le f1 hk⟩, h.tree⟩
theorem tight_iff {ts : List (Int × Int)} {k : Int} {ws : List V} (h : LayK ts k ws) (hk : 0 ≤ k) {ls : List Int} (hn : ls.Nodup) (he : ls ≠ []) : ((inside ls (laidT ts ws) : Int) = k * ((ls.length : Int) - 1)) ↔ ∀ f, 0 ≤ f → f < k → (inside ls (layerOf ts ws f) : Int) = (ls.length : Int) - 1 := by
  rw [inside_laid ls h.len h.each]
  have hm := sum_most (s := (ls.length : Int) - 1) (g := fun f => (inside ls (layerOf ts ws f) : Int)) (l := upTo k) fun f _ => by
    have := inside_forest (h.tree f) hn he
    show (inside ls (layerOf ts ws f) : Int) ≤ _
    omega
  have hl : ((upTo k).length : Int) = k := by rw [upTo_length]; omega
  rw [hl] at hm
  rw [hm.2]
  exact ⟨fun z f f0 f1 => z f (upTo_mem.mpr ⟨f0, f1⟩), fun z f hf => z f (upTo_mem.mp hf).1 (upTo_mem.mp hf).2⟩
/-! ### all lots -/
def lotsF : Nat → List (List Int)
  | 0 => [[]]
  | n + 1 => lotsF n ++ (lotsF n).map fun l => l ++ [(n : Int)]
theorem lotsF_ok : ∀ (n : Nat) (l : List Int), l ∈ lotsF n → l.Pairwise (· < ·) ∧ (∀ x ∈ l, 0 ≤ x ∧ x < (n : Int)) ∧ l.length ≤ n
  | 0, l, h => by
    rw [List.mem_singleton.mp h]
    exact ⟨.nil, (fun _ z => nomatch z), Nat.le_refl _⟩
  | n + 1, l, h => by
    rcases List.mem_append.mp (show l ∈ lotsF n ++ (lotsF n).map fun l => l ++ [(n : Int)] from h) with h | h
    · obtain ⟨h1, h2, h3⟩ := lotsF_ok n l h
      exact ⟨h1, fun x hx => by have := h2 x hx; omega, by omega⟩
    · obtain ⟨l', h', rfl⟩ := List.mem_map.mp h
      obtain ⟨h1, h2, h3⟩ := lotsF_ok n l' h'
      refine ⟨?_, fun x hx => ?_, by rw [List.length_append]; exact Nat.succ_le_succ h3⟩
      · rw [List.pairwise_append]
        exact ⟨h1, List.pairwise_singleton _ _, fun a ha b hb => by rw [List.mem_singleton.mp hb]; exact (h2 a ha).2⟩
      · rcases List.mem_append.mp hx with hx | hx
        · have := h2 x hx; omega
        · rw [List.mem_singleton.mp hx]; omega
theorem lotsF_all : ∀ (n : Nat) {l : List Int}, l.Pairwise (· < ·) → (∀ x ∈ l, 0 ≤ x ∧ x < (n : Int)) → l ∈ lotsF n
  | 0, l, _, h => by
    cases l with
    | nil => exact List.mem_singleton.mpr rfl
    | cons x r => have := h x List.mem_cons_self; omega
  | n + 1, l, hp, h => by
    show l ∈ lotsF n ++ (lotsF n).map fun l => l ++ [(n : Int)]
    by_cases hn : (n : Int) ∈ l
    · refine List.mem_append_right _ (List.mem_map.mpr ⟨l.filter fun x => decide (x < n), lotsF_all n (hp.filter _) (fun x hx => ?_), ?_⟩)
      · have h1 := (List.mem_filter.mp hx)
        have := of_decide_eq_true h1.2
        exact ⟨(h x h1.1).1, this⟩
      · refine up_same ?_ hp fun x => ?_
        · rw [List.pairwise_append]
          exact ⟨hp.filter _, List.pairwise_singleton _ _, fun a ha b hb => by rw [List.mem_singleton.mp hb]; exact of_decide_eq_true (List.mem_filter.mp ha).2⟩
        · rw [List.mem_append, List.mem_filter, List.mem_singleton, decide_eq_true_eq]
          constructor
          · rintro (⟨a, _⟩ | rfl)
            · exact a
            · exact hn
          · intro hx
            have := h x hx
            by_cases e : x = n
            · exact .inr e
            · exact .inl ⟨hx, by omega⟩
    · refine List.mem_append_left _ (lotsF_all n hp fun x hx => ?_)
      have := h x hx
      have : x ≠ n := fun z => hn (z ▸ hx)
      omega
theorem Lots.tys {H : Hp} {rs : List V} {pss : List (List Int)} (h : Lots H rs pss) : ∀ r ∈ rs, ∃ ls q, ls ∈ pss ∧ r = .ref q ∧ H q = some (.tup (ls.map V.int)) := fun r hr => by
  obtain ⟨i, hi⟩ := List.mem_iff_getElem?.mp hr
  obtain ⟨ls, q, e, er, hq⟩ := h.get hi
  exact ⟨ls, q, List.mem_of_getElem? e, er, hq⟩
theorem ringlessF_sub {L L' : List (Int × Int)} (s : L'.Sublist L) (h : ringlessF (fun x => x) L = true) : ringlessF (fun x => x) L' = true := by
  obtain ⟨r, hp⟩ := s.exists_perm_append
  rw [ringlessF_perm hp] at h
  cases e : ringlessF (fun x => x) L' with
  | true => rfl
  | false => rw [ringlessF_bad _ _ _ e] at h; cases h
theorem Less.layer {f : Int} : ∀ {ts : List (Int × Int)} {zs ws : List V}, Less zs ws → (layerOf ts zs f).Sublist (layerOf ts ws f)
  | [], zs, ws, _ => by
    unfold layerOf
    rw [List.zip_nil_left]
    exact List.nil_sublist _
  | t :: ts, [], ws, h => by
    unfold layerOf
    rw [List.zip_nil_right]
    exact List.nil_sublist _
  | t :: ts, z :: zs, [], h => by have := h.len; simp at this
  | t :: ts, z :: zs, x :: ws, h => by
    have h' : Less zs ws := ⟨by have := h.len; simpa using this, fun i z' x' e1 e2 => h.each (i + 1) z' x' e1 e2⟩
    have ih := Less.layer (f := f) (ts := ts) h'
    rw [layerOf_cons, layerOf_cons]
    refine List.Sublist.append ?_ ih
    rcases h.each 0 z x rfl rfl with rfl | rfl
    · exact .refl _
    · rw [if_neg (fun z => nomatch z)]
      exact List.nil_sublist _
theorem LayK.less {ts : List (Int × Int)} {k : Int} {zs ws : List V} (h : LayK ts k ws) (l : Less zs ws) : LayK ts k zs := by
  refine ⟨l.len.trans h.len, fun z hz => ?_, fun f => ringlessF_sub l.layer (h.tree f)⟩
  obtain ⟨i, hi⟩ := List.mem_iff_getElem?.mp hz
  have hlt : i < ws.length := by
    have := (List.getElem?_eq_some_iff.mp hi).1
    have := l.len
    omega
  rcases l.each i z _ hi (List.getElem?_eq_getElem hlt) with e | e
  · rw [e]
    exact h.each _ (List.getElem_mem hlt)
  · exact .inl e
theorem layerOf_nons (ts : List (Int × Int)) (f : Int) : ∀ m : Nat, layerOf ts (List.replicate m .non) f = [] := fun m => by
  unfold layerOf
  rw [List.map_eq_nil_iff, List.filter_eq_nil_iff]
  intro p hp
  have := (List.of_mem_zip (a := p.1) (b := p.2) hp).2
  rw [List.eq_of_mem_replicate this]
  exact fun z => nomatch of_decide_eq_true z
theorem LayK.none (ts : List (Int × Int)) {k : Int} : LayK ts k (List.replicate ts.length .non) := ⟨List.length_replicate, fun x hx => .inl (List.eq_of_mem_replicate hx), fun f => by rw [layerOf_nons]; rfl⟩
theorem Lot.nd {n : Int} {ls : List Int} (h : Lot n ls) : ls.Nodup := h.up.imp fun z => by omega
end FF
namespace FF
open PySem PySem.Spec PyProof.Rows L2
variable [LT]
/-! ### trees -/
theorem LayK.o {ts : List (Int × Int)} {k : Int} {ws : List V} (h : LayK ts k ws) : layO ts k (some ws) = true := layO_good h.len (fun x hx => by
  rcases h.each x hx with rfl | ⟨f, rfl, f0, f1⟩
  · rfl
  · show (decide (0 ≤ f) && decide (f ≤ k - 1)) = true
    rw [decide_eq_true f0, decide_eq_true (by omega : f ≤ k - 1)]; rfl) fun f _ => h.tree f
/-! ### ties with their forests -/
/-! ### rows of a tie and its forest, in the heap -/
theorem allK {X : Cx} {K : PySem.W.Frag} (hc : X.calm = true) (h : X.K = K := by rfl) : CallR X (.builtin "all") (rAll K) := h ▸ cr_all hc
end FF
namespace FF
open PySem PySem.Spec PyProof.Rows L2
variable [LT]
theorem LayK.nil {k : Int} : LayK [] k [] := ⟨rfl, (fun _ z => nomatch z), fun _ => rfl⟩
section
variable {X : Cx} {K : PySem.W.Frag} {a b : Expr} {ta tb : TE} {rest : List Expr} {pos : Pos}
end
theorem zip_erase {α β : Type} : ∀ (xs : List α) (ys : List β) (g : Nat), xs.length = ys.length → (xs.eraseIdx g).zip (ys.eraseIdx g) = (xs.zip ys).eraseIdx g
  | [], [], _, _ => rfl
  | x :: xs, y :: ys, 0, _ => rfl
  | x :: xs, y :: ys, g + 1, h => by
    show (x, y) :: (xs.eraseIdx g).zip (ys.eraseIdx g) = (x, y) :: (xs.zip ys).eraseIdx g
    rw [zip_erase xs ys g (Nat.succ.inj h)]
  | [], _ :: _, _, h => by cases h
  | _ :: _, [], _, h => by cases h
theorem LayK.erase {ts : List (Int × Int)} {k : Int} {ws : List V} (h : LayK ts k ws) {g : Nat} (hg : g < ts.length) : LayK (ts.eraseIdx g) k (ws.eraseIdx g) := by
  have hl := h.len
  refine ⟨by rw [List.length_eraseIdx, List.length_eraseIdx, if_pos hg, if_pos (by omega), hl], fun x hx => h.each x (List.mem_of_mem_eraseIdx hx), fun f => ringlessF_sub ?_ (h.tree f)⟩
  unfold layerOf
  rw [zip_erase ts ws g hl.symm]
  exact ((List.eraseIdx_sublist _ _).filter _).map _
theorem Ties.erase {H : Hp} : ∀ {rs : List V} {ts : List (Int × Int)} (g : Nat), Ties H rs ts → Ties H (rs.eraseIdx g) (ts.eraseIdx g)
  | _, _, _, .nil => .nil
  | _, _, 0, .cons _ t => t
  | _, _, g + 1, .cons h t => .cons h (Ties.erase g t)
end FF
namespace FF
open PySem PySem.Spec PyProof.Rows L2
variable [LT]
/-! ### exchanges in forests -/
abbrev tk (ts : List (Int × Int)) (a : Int) : Int × Int := ts.getD a.toNat (0, 0)
abbrev jn (ts : List (Int × Int)) (ms : List Int) (x y : Int) : Prop := foldR (fun x => x) (pick ts ms) x = foldR (fun x => x) (pick ts ms) y
theorem way_of {ts : List (Int × Int)} : ∀ (n : Nat) (ms : List Int), ms.length = n → ms.Nodup → ∀ x y, jn ts ms x y → ∃ ns, Way ts x ns y ∧ ns.Nodup ∧ ∀ m ∈ ns, m ∈ ms
  | 0, ms, hl, _, x, y, h => by
    have : ms = [] := List.length_eq_zero_iff.mp hl
    subst this
    have h : x = y := h
    subst h
    exact ⟨[], .nil x, List.nodup_nil, fun _ z => nomatch z⟩
  | n + 1, ms, hl, hnd, x, y, h => by
    have hne : ms ≠ [] := fun z => by rw [z] at hl; cases hl
    obtain ⟨is, m, rfl⟩ : ∃ is m, ms = is ++ [m] := ⟨ms.dropLast, ms.getLast hne, (List.dropLast_concat_getLast hne).symm⟩
    have hnd' := List.nodup_append.mp hnd
    have hmi : m ∉ is := fun z => hnd'.2.2 m z m List.mem_cons_self rfl
    have hil : is.length = n := by rw [List.length_append] at hl; exact Nat.succ.inj hl
    have ih := way_of (ts := ts) n is hil hnd'.1
    by_cases c : jn ts is x y
    · obtain ⟨ns, w, nd, hm⟩ := ih x y c
      exact ⟨ns, w, nd, fun k hk => List.mem_append_left _ (hm k hk)⟩
    have e : foldR (fun x => x) (pick ts (is ++ [m])) = rstep (foldR (fun x => x) (pick ts is)) (tk ts m) := by rw [pick_append]; exact foldR_snoc _ _ _
    unfold jn at h
    rw [e] at h
    -- a way over m
    have go : ∀ u v p q, jn ts is u p → jn ts is q v → ¬ jn ts is u v → Leads ts m p q → ∃ ns, Way ts u ns v ∧ ns.Nodup ∧ ∀ k ∈ ns, k ∈ is ++ [m] := fun u v p q h1 h2 h3 hL => by
      obtain ⟨n1, w1, d1, s1⟩ := ih u p h1
      obtain ⟨n2, w2, d2, s2⟩ := ih q v h2
      refine ⟨n1 ++ m :: n2, w1.append (.cons hL w2), ?_, fun k hk => ?_⟩
      · rw [List.nodup_append, List.nodup_cons]
        refine ⟨d1, ⟨fun z => hmi (s2 m z), d2⟩, fun a ha b hb => ?_⟩
        rcases List.mem_cons.mp hb with rfl | hb
        · exact fun z => hmi (z ▸ s1 a ha)
        · rintro rfl
          obtain ⟨l1, l2, u1, v1, el, x1, x2, x3⟩ := w1.cut ha
          obtain ⟨k1, k2, u2, v2, ek, z1, z2, z3⟩ := w2.cut hb
          have e1 : jn ts is u u1 := x1.joined fun k hk => s1 k (by rw [el]; exact List.mem_append_left _ hk)
          have e2 : jn ts is v2 v := z3.joined fun k hk => s2 k (by rw [ek]; exact List.mem_append_right _ (List.mem_cons_of_mem _ hk))
          have e3 : jn ts is u2 v2 := z2.foldR (s2 a hb)
          have e4 : jn ts is u1 v1 := x2.foldR (s1 a ha)
          have e5 : jn ts is u1 v2 := by
            rcases x2 with x2 | x2 <;> rcases z2 with z2 | z2 <;> rw [x2] at z2
            · cases z2; exact e4
            · have := Prod.mk.inj z2; rw [this.1]
            · have := Prod.mk.inj z2; rw [← this.2]
            · cases z2; exact e4
          exact h3 (e1.trans (e5.trans e2))
      · rcases List.mem_append.mp hk with hk | hk
        · exact List.mem_append_left _ (s1 k hk)
        · rcases List.mem_cons.mp hk with rfl | hk
          · exact List.mem_append_right _ List.mem_cons_self
          · exact List.mem_append_left _ (s2 k hk)
    have h : (if foldR (fun x => x) (pick ts is) x = foldR (fun x => x) (pick ts is) (tk ts m).2 then foldR (fun x => x) (pick ts is) (tk ts m).1 else foldR (fun x => x) (pick ts is) x) = (if foldR (fun x => x) (pick ts is) y = foldR (fun x => x) (pick ts is) (tk ts m).2 then foldR (fun x => x) (pick ts is) (tk ts m).1 else foldR (fun x => x) (pick ts is) y) := h
    by_cases c1 : jn ts is x (tk ts m).2
    · by_cases c2 : jn ts is y (tk ts m).2
      · exact absurd (c1.trans c2.symm) c
      · rw [if_pos c1, if_neg c2] at h
        exact go x y (tk ts m).2 (tk ts m).1 c1 h c (.inr rfl)
    · by_cases c2 : jn ts is y (tk ts m).2
      · rw [if_neg c1, if_pos c2] at h
        exact go x y (tk ts m).1 (tk ts m).2 h c2.symm c (.inl rfl)
      · rw [if_neg c1, if_neg c2] at h
        exact absurd h c
theorem ring_exists {ts : List (Int × Int)} {ms : List Int} (hn : ms.Nodup) {x y : Int} (h : jn ts ms x y) : ∃ ns, IsRing ts ms x y ns := by
  obtain ⟨ns, w, nd, hm⟩ := way_of _ ms rfl hn x y h
  exact ⟨ns, w, nd, hm⟩
/-- a forest: its ties by their numbers -/
structure Fo (ts : List (Int × Int)) (ms : List Int) : Prop where
  nd : ms.Nodup
  rl : ringlessF (fun x => x) (pick ts ms) = true
/-- x is on the ring that a closes in ms -/
def OnR (ts : List (Int × Int)) (ms : List Int) (a x : Int) : Prop := x ∈ ms ∧ ¬ jn ts (but x ms) (tk ts a).1 (tk ts a).2
theorem Fo.same {ts : List (Int × Int)} {ms ns : List Int} (h : Fo ts ms) (hn : ns.Nodup) (hm : ∀ x, x ∈ ns ↔ x ∈ ms) : Fo ts ns := by
  have p : ns.Perm ms := (List.perm_ext_iff_of_nodup hn h.nd).mpr hm
  refine ⟨hn, ?_⟩
  exact (ringlessF_perm (show (pick ts ns).Perm (pick ts ms) from p.map _) _).trans h.rl
theorem Fo.but {ts : List (Int × Int)} {ms : List Int} (h : Fo ts ms) (b : Int) : Fo ts (but b ms) :=
  ⟨h.nd.filter _, ringlessF_sub (List.filter_sublist.map _) h.rl⟩
theorem Fo.add {ts : List (Int × Int)} {ms : List Int} {a : Int} (h : Fo ts ms) (ha : a ∉ ms) (hj : ¬ jn ts ms (tk ts a).1 (tk ts a).2) : Fo ts (ms ++ [a]) := by
  refine ⟨?_, ?_⟩
  · rw [List.nodup_append]
    exact ⟨h.nd, by simp, fun x hx y hy => by rw [List.mem_singleton.mp hy]; exact fun z => ha (z ▸ hx)⟩
  · rw [pick_append]
    show ringlessF _ (pick ts ms ++ [tk ts a]) = true
    rw [ringlessF_more h.rl, decide_eq_false hj]
    rfl
theorem jn_sub {ts : List (Int × Int)} {ms ns : List Int} (h : ∀ x ∈ ms, x ∈ ns) {x y : Int} (hj : jn ts ms x y) : jn ts ns x y := foldR_sub (fun t ht => by
  obtain ⟨m, hm, rfl⟩ := List.mem_map.mp ht
  exact List.mem_map.mpr ⟨m, h m hm, rfl⟩) x y hj
theorem OnR.not_in {ts : List (Int × Int)} {ms : List Int} {a b : Int} (h : OnR ts ms a b) (ha : a ∉ ms) : a ∉ FF.but b ms := fun z => ha (mem_but.mp z).1
theorem Fo.swap {ts : List (Int × Int)} {ms : List Int} {a b : Int} (h : Fo ts ms) (ha : a ∉ ms) (hb : OnR ts ms a b) : Fo ts (FF.but b ms ++ [a]) := (h.but b).add (hb.not_in ha) hb.2
/-- the ring of another tie stays, if what goes is not on it -/
theorem ring_stays {ts : List (Int × Int)} {ms ns : List Int} {a : Int} (h : Fo ts ms) (h' : Fo ts ns) (hj : jn ts ms (tk ts a).1 (tk ts a).2) (hs : ∀ x, OnR ts ms a x → x ∈ ns) : jn ts ns (tk ts a).1 (tk ts a).2 ∧ ∀ x, OnR ts ns a x ↔ OnR ts ms a x := by
  obtain ⟨rs, hR⟩ := ring_exists h.nd hj
  have h1 := hR.mem_iff h.rl h.nd
  have hR' : IsRing ts ns (tk ts a).1 (tk ts a).2 rs := ⟨hR.way, hR.nd, fun m hm => hs m ((h1 m).mp hm)⟩
  have h2 := hR'.mem_iff h'.rl h'.nd
  exact ⟨hR'.way.joined hR'.mem, fun x => (h2 x).symm.trans (h1 x)⟩
theorem OnR.jn {ts : List (Int × Int)} {ms : List Int} {a b : Int} (_ : OnR ts ms a b) (hj : jn ts ms (tk ts a).1 (tk ts a).2) : FF.jn ts ms (tk ts a).1 (tk ts a).2 := hj
/-- several exchanges one after another: each next pair of the list comes earlier in the row -/
theorem Fo.swaps {ts : List (Int × Int)} : ∀ (ps : List (Int × Int)) {ms : List Int}, Fo ts ms → (ps.map Prod.fst).Nodup → (∀ p ∈ ps, p.1 ∉ ms ∧ FF.jn ts ms (tk ts p.1).1 (tk ts p.1).2 ∧ OnR ts ms p.1 p.2) → ps.Pairwise (fun p q => ¬ OnR ts ms q.1 p.2) → ∃ ns, Fo ts ns ∧ ∀ x, x ∈ ns ↔ (x ∈ ms ∧ x ∉ ps.map Prod.snd) ∨ x ∈ ps.map Prod.fst
  | [], ms, h, _, _, _ => ⟨ms, h, fun x => by simp⟩
  | (a, b) :: ps, ms, h, hnd, hp, hw => by
    obtain ⟨ha, hj, hb⟩ := hp (a, b) List.mem_cons_self
    obtain ⟨w1, w2⟩ := List.pairwise_cons.mp hw
    obtain ⟨n1, n2⟩ := List.nodup_cons.mp (show (a :: ps.map Prod.fst).Nodup from hnd)
    have h' := h.swap ha hb
    have keep : ∀ p ∈ ps, FF.jn ts (FF.but b ms ++ [a]) (tk ts p.1).1 (tk ts p.1).2 ∧ ∀ x, OnR ts (FF.but b ms ++ [a]) p.1 x ↔ OnR ts ms p.1 x := fun p hpm => by
      obtain ⟨_, hj', _⟩ := hp p (List.mem_cons_of_mem _ hpm)
      refine ring_stays h h' hj' fun x hx => List.mem_append_left _ (mem_but.mpr ⟨hx.1, fun z => w1 p hpm (z ▸ hx)⟩)
    obtain ⟨ns, hF, hm⟩ := Fo.swaps ps h' n2 (fun p hpm => by
      obtain ⟨p1, p2, p3⟩ := hp p (List.mem_cons_of_mem _ hpm)
      obtain ⟨k1, k2⟩ := keep p hpm
      refine ⟨fun z => ?_, k1, (k2 _).mpr p3⟩
      rcases List.mem_append.mp z with z | z
      · exact p1 (mem_but.mp z).1
      · exact n1 (List.mem_map.mpr ⟨p, hpm, List.mem_singleton.mp z⟩)) (w2.imp_of_mem fun {p q} hpm hqm hpq => fun z => hpq (((keep q hqm).2 _).mp z))
    refine ⟨ns, hF, fun x => ?_⟩
    rw [hm x, List.mem_append, mem_but, List.mem_singleton, List.map_cons, List.map_cons, List.mem_cons, List.mem_cons]
    constructor
    · rintro (⟨⟨x1, x2⟩ | x1, x3⟩ | x1)
      · exact .inl ⟨x1, fun z => z.elim x2 x3⟩
      · exact .inr (.inl x1)
      · exact .inr (.inr x1)
    · rintro (⟨x1, x2⟩ | x1 | x1)
      · exact .inl ⟨.inl ⟨x1, fun z => x2 (.inl z)⟩, fun z => x2 (.inr z)⟩
      · refine .inl ⟨.inr x1, fun z => ?_⟩
        obtain ⟨p, hpm, e⟩ := List.mem_map.mp z
        have := (hp p (List.mem_cons_of_mem _ hpm)).2.2.1
        rw [e, x1] at this
        exact ha this
      · exact .inr x1
end FF
namespace FF
open PySem PySem.Spec PyProof.Rows L2
variable [LT]
/-- a laying after pushes -/
def pushL (ws : List V) (es : List (Int × Int)) : List V := es.foldl (fun w e => w.set e.1.toNat (.int e.2)) ws
theorem pushL_length (es : List (Int × Int)) : ∀ ws : List V, (pushL ws es).length = ws.length := by
  induction es with
  | nil => exact fun _ => rfl
  | cons e es ih => exact fun ws => (ih _).trans List.length_set
theorem nums_iff {f : Int} {ws : List V} {x : Int} : x ∈ numsFrom f 0 ws ↔ 0 ≤ x ∧ ws[x.toNat]? = some (.int f) := by
  constructor
  · intro h
    obtain ⟨k, e, hk⟩ := nums_at h
    have := nums_bd f 0 ws x h
    rw [show x.toNat = k by omega]
    exact ⟨by omega, hk⟩
  · rintro ⟨h0, h⟩
    have := mem_nums (i := 0) h
    rw [Nat.zero_add, Int.toNat_of_nonneg h0] at this
    exact this
theorem fo_nums {ts : List (Int × Int)} {ws : List V} {f : Int} (hl : ws.length = ts.length) : Fo ts (numsFrom f 0 ws) ↔ ringlessF (fun x => x) (layerOf ts ws f) = true := by
  have e : pick ts (numsFrom f 0 ws) = layerOf ts ws f := pick_nums f [] ts ws hl.symm
  exact ⟨fun h => by rw [← e]; exact h.rl, fun h => ⟨nums_nd f 0 ws, by rw [e]; exact h⟩⟩
theorem jn_join {ts : List (Int × Int)} {ws : List V} {e : Int × Int} (hl : ws.length = ts.length) : joinB ts ws e = true ↔ jn ts (numsFrom e.2 0 ws) (tk ts e.1).1 (tk ts e.1).2 := by
  unfold joinB jn
  rw [decide_eq_true_eq, show pick ts (numsFrom e.2 0 ws) = layerOf ts ws e.2 from pick_nums e.2 [] ts ws hl.symm]
/-! ### what a row without short cuts makes of a laying -/
theorem pushL_in : ∀ (es : List (Int × Int)) {ws : List V} {e : Int × Int}, (es.map Prod.fst).Nodup → (∀ e ∈ es, 0 ≤ e.1 ∧ e.1 < (ws.length : Int)) → e ∈ es → (pushL ws es)[e.1.toNat]? = some (.int e.2)
  | d :: es, ws, e, hn, hb, he => by
    obtain ⟨n1, n2⟩ := List.nodup_cons.mp (show (d.1 :: es.map Prod.fst).Nodup from hn)
    show (pushL (ws.set d.1.toNat (.int d.2)) es)[e.1.toNat]? = _
    have hb' : ∀ e ∈ es, 0 ≤ e.1 ∧ e.1 < ((ws.set d.1.toNat (.int d.2)).length : Int) := fun e' h' => by rw [List.length_set]; exact hb e' (List.mem_cons_of_mem _ h')
    rcases List.mem_cons.mp he with rfl | he
    · rw [pushL_out es (fun z => n1 z) hb' (hb e List.mem_cons_self).1]
      have := hb e List.mem_cons_self
      exact List.getElem?_set_self (by omega)
    · exact pushL_in es n2 hb' he
where
  pushL_out : ∀ (es : List (Int × Int)) {ws : List V} {x : Int}, x ∉ es.map Prod.fst → (∀ e ∈ es, 0 ≤ e.1 ∧ e.1 < (ws.length : Int)) → 0 ≤ x → (pushL ws es)[x.toNat]? = ws[x.toNat]?
    | [], _, _, _, _, _ => rfl
    | d :: es, ws, x, hx, hb, x0 => by
      have hx : x ∉ d.1 :: es.map Prod.fst := hx
      have h1 : x ≠ d.1 := fun z => hx (by rw [z]; exact List.mem_cons_self)
      have h2 : x ∉ es.map Prod.fst := fun z => hx (List.mem_cons_of_mem _ z)
      show (pushL (ws.set d.1.toNat (.int d.2)) es)[x.toNat]? = _
      rw [pushL_out es h2 (fun e' h' => by rw [List.length_set]; exact hb e' (List.mem_cons_of_mem _ h')) x0]
      have := (hb d List.mem_cons_self).1
      exact List.getElem?_set_ne (by omega)
def pairsF (f : Int) : List (Int × Int) → List (Int × Int)
  | e :: e' :: r => (if e.2 = f then [(e.1, e'.1)] else []) ++ pairsF f (e' :: r)
  | _ => []
/-- no short cut -/
def NoCut (ts : List (Int × Int)) (ws : List V) : List (Int × Int) → Prop
  | [] => True
  | e :: r => (∀ q ∈ r.tail, ¬ OnRing ts ws e q.1) ∧ NoCut ts ws r
theorem pairs_snd {f : Int} : ∀ {e : Int × Int} {r : List (Int × Int)} {p : Int × Int}, p ∈ pairsF f (e :: r) → ∃ q ∈ r, q.1 = p.2
  | e, e' :: r, p, h => by
    rcases List.mem_append.mp (show p ∈ (if e.2 = f then [(e.1, e'.1)] else []) ++ pairsF f (e' :: r) from h) with h | h
    · split at h
      · rw [List.mem_singleton.mp h]
        exact ⟨e', List.mem_cons_self, rfl⟩
      · cases h
    · obtain ⟨q, hq, e⟩ := pairs_snd h
      exact ⟨q, List.mem_cons_of_mem _ hq, e⟩
theorem pairs_fst {f : Int} : ∀ {es : List (Int × Int)}, ((pairsF f es).map Prod.fst).Sublist (es.map Prod.fst)
  | [] => .refl _
  | [e] => List.nil_sublist _
  | e :: e' :: r => by
    have ih := pairs_fst (f := f) (es := e' :: r)
    show (((if e.2 = f then [(e.1, e'.1)] else []) ++ pairsF f (e' :: r)).map Prod.fst).Sublist (e.1 :: (e' :: r).map Prod.fst)
    rw [List.map_append]
    split
    · exact ih.cons₂ _
    · exact ih.cons _
theorem pairs_ok {ts : List (Int × Int)} {ws : List V} {f : Int} (hl : ws.length = ts.length) : ∀ {es : List (Int × Int)}, pushB ts ws es = true → ∀ p ∈ pairsF f es, (p.1, f) ∈ es ∧ jn ts (numsFrom f 0 ws) (tk ts p.1).1 (tk ts p.1).2 ∧ OnR ts (numsFrom f 0 ws) p.1 p.2
  | e :: e' :: r, h, p, hp => by
    have h : ((joinB ts ws e && @decide (OnRing ts ws e e'.1) (Classical.propDecidable _)) && pushB ts ws (e' :: r)) = true := h
    rw [Bool.and_eq_true, Bool.and_eq_true] at h
    obtain ⟨⟨h1, h2⟩, h3⟩ := h
    rcases List.mem_append.mp (show p ∈ (if e.2 = f then [(e.1, e'.1)] else []) ++ pairsF f (e' :: r) from hp) with hp | hp
    · split at hp
      · rename_i ef
        rw [List.mem_singleton.mp hp]
        subst ef
        exact ⟨List.mem_cons_self, (jn_join hl).mp h1, @of_decide_eq_true _ (Classical.propDecidable _) h2⟩
      · cases hp
    · obtain ⟨a, b, c⟩ := pairs_ok hl h3 p hp
      exact ⟨List.mem_cons_of_mem _ a, b, c⟩
theorem pairs_apart {ts : List (Int × Int)} {ws : List V} {f : Int} : ∀ {es : List (Int × Int)}, NoCut ts ws es → (pairsF f es).Pairwise fun p q => ¬ OnR ts (numsFrom f 0 ws) p.1 q.2
  | [], _ => .nil
  | [e], _ => .nil
  | e :: e' :: r, h => by
    have ih := pairs_apart (f := f) (es := e' :: r) h.2
    show ((if e.2 = f then [(e.1, e'.1)] else []) ++ pairsF f (e' :: r)).Pairwise _
    rw [List.pairwise_append]
    refine ⟨by split <;> simp, ih, fun p hp q hq => ?_⟩
    split at hp
    · rename_i ef
      rw [List.mem_singleton.mp hp]
      obtain ⟨q', hq', e2⟩ := pairs_snd hq
      subst ef
      have := h.1 q' hq'
      rw [e2] at this
      exact this
    · cases hp
theorem pairs_has {f : Int} : ∀ {es : List (Int × Int)} {e : Int × Int}, e ∈ es → e.2 = f → (∃ b, (e.1, b) ∈ pairsF f es) ∨ es.getLast? = some e
  | [d], e, he, _ => .inr (by rw [List.mem_singleton.mp he]; rfl)
  | d :: d' :: r, e, he, ef => by
    rcases List.mem_cons.mp he with rfl | he
    · refine .inl ⟨d'.1, ?_⟩
      show (e.1, d'.1) ∈ (if e.2 = f then [(e.1, d'.1)] else []) ++ pairsF f (d' :: r)
      rw [if_pos ef]
      exact List.mem_cons_self
    · rcases pairs_has he ef with ⟨b, hb⟩ | h
      · exact .inl ⟨b, List.mem_append_right _ hb⟩
      · exact .inr (by rw [List.getLast?_cons_cons]; exact h)
/-- what is pushed away from a forest -/
theorem pairs_gone {ts : List (Int × Int)} {ws : List V} {f : Int} : ∀ {e : Int × Int} {r : List (Int × Int)}, pushB ts ws (e :: r) = true → ∀ q ∈ r, q.1 ∈ numsFrom f 0 ws → q.1 ∈ (pairsF f (e :: r)).map Prod.snd
  | e, e' :: r, h, q, hq, hm => by
    have h : ((joinB ts ws e && @decide (OnRing ts ws e e'.1) (Classical.propDecidable _)) && pushB ts ws (e' :: r)) = true := h
    rw [Bool.and_eq_true, Bool.and_eq_true] at h
    obtain ⟨⟨h1, h2⟩, h3⟩ := h
    show q.1 ∈ (((if e.2 = f then [(e.1, e'.1)] else []) ++ pairsF f (e' :: r)).map Prod.snd)
    rw [List.map_append, List.mem_append]
    rcases List.mem_cons.mp hq with rfl | hq
    · have h2 : OnRing ts ws e q.1 := @of_decide_eq_true _ (Classical.propDecidable _) h2
      have a := (nums_iff.mp h2.1).2
      have b := (nums_iff.mp hm).2
      rw [a] at b
      have ef : e.2 = f := V.int.inj (Option.some.inj b)
      rw [if_pos ef]
      exact .inl List.mem_cons_self
    · exact .inr (pairs_gone h3 q hq hm)
theorem push_last {ts : List (Int × Int)} {ws : List V} : ∀ {es : List (Int × Int)} {e : Int × Int}, pushB ts ws es = true → es.getLast? = some e → joinB ts ws e = false
  | [d], e, h, hl => by
    have h : (!joinB ts ws d) = true := h
    have : d = e := Option.some.inj hl
    subst this
    cases e : joinB ts ws d with
    | false => rfl
    | true => rw [e] at h; cases h
  | d :: d' :: r, e, h, hl => by
    have h : ((joinB ts ws d && @decide (OnRing ts ws d d'.1) (Classical.propDecidable _)) && pushB ts ws (d' :: r)) = true := h
    rw [Bool.and_eq_true] at h
    rw [List.getLast?_cons_cons] at hl
    exact push_last h.2 hl
theorem pairs_not_last {f : Int} : ∀ {es : List (Int × Int)} {p e : Int × Int}, (es.map Prod.fst).Nodup → p ∈ pairsF f es → es.getLast? = some e → p.1 ≠ e.1
  | d :: d' :: r, p, e, hn, hp, hl => by
    obtain ⟨n1, n2⟩ := List.nodup_cons.mp (show (d.1 :: (d' :: r).map Prod.fst).Nodup from hn)
    rw [List.getLast?_cons_cons] at hl
    rcases List.mem_append.mp (show p ∈ (if d.2 = f then [(d.1, d'.1)] else []) ++ pairsF f (d' :: r) from hp) with hp | hp
    · split at hp
      · rw [List.mem_singleton.mp hp]
        exact fun z => n1 (List.mem_map.mpr ⟨e, List.mem_of_getLast? hl, z.symm⟩)
      · cases hp
    · exact pairs_not_last n2 hp hl
/-- a row of pushes without short cuts leaves no ring -/
theorem row_lays {ts : List (Int × Int)} {ws : List V} {e0 : Int × Int} {r : List (Int × Int)} (hl : ws.length = ts.length) (hf : ∀ f, ringlessF (fun x => x) (layerOf ts ws f) = true) (hn : ((e0 :: r).map Prod.fst).Nodup) (hb : ∀ e ∈ e0 :: r, 0 ≤ e.1 ∧ e.1 < (ts.length : Int)) (hlay : ∀ e ∈ e0 :: r, layB ws e = false) (hp : pushB ts ws (e0 :: r) = true) (h0 : ws[e0.1.toNat]? = some .non) (hc : NoCut ts ws (e0 :: r)) (f : Int) : ringlessF (fun x => x) (layerOf ts (pushL ws (e0 :: r)) f) = true := by
  have hb' : ∀ e ∈ e0 :: r, 0 ≤ e.1 ∧ e.1 < (ws.length : Int) := fun e he => by rw [hl]; exact hb e he
  rw [← fo_nums ((pushL_length _ _).trans hl)]
  have hF := (fo_nums hl).mpr (hf f)
  have hout : ∀ e ∈ e0 :: r, e.2 = f → e.1 ∉ numsFrom f 0 ws := fun e he ef z => by
    have := hlay e he
    unfold layB at this
    rw [ef, (nums_iff.mp z).2, decide_eq_true rfl] at this
    cases this
  have hps := pairs_ok (f := f) hl hp
  have hap := pairs_apart (f := f) hc
  have hnd := hn.sublist (pairs_fst (f := f) (es := e0 :: r))
  -- a free tie at the end
  obtain ⟨ms, hM, hms, hkeep⟩ : ∃ ms, Fo ts ms ∧ (∀ x, x ∈ ms ↔ x ∈ numsFrom f 0 ws ∨ ∃ e, (e0 :: r).getLast? = some e ∧ e.2 = f ∧ e.1 = x) ∧ ∀ p ∈ pairsF f (e0 :: r), p.1 ∉ ms ∧ jn ts ms (tk ts p.1).1 (tk ts p.1).2 ∧ ∀ x, OnR ts ms p.1 x ↔ OnR ts (numsFrom f 0 ws) p.1 x := by
    by_cases c : ∃ e, (e0 :: r).getLast? = some e ∧ e.2 = f
    · obtain ⟨e, he, ef⟩ := c
      have hem := List.mem_of_getLast? he
      have hj : ¬ jn ts (numsFrom f 0 ws) (tk ts e.1).1 (tk ts e.1).2 := fun z => by
        have := push_last hp he
        subst ef
        rw [(jn_join hl).mpr z] at this
        cases this
      have hM := hF.add (hout e hem ef) hj
      refine ⟨_, hM, fun x => ?_, fun p hpm => ?_⟩
      · rw [List.mem_append, List.mem_singleton]
        constructor
        · rintro (h | h)
          · exact .inl h
          · exact .inr ⟨e, he, ef, h.symm⟩
        · rintro (h | ⟨e', h1, _, h3⟩)
          · exact .inl h
          · rw [he] at h1
            cases h1
            exact .inr h3.symm
      · obtain ⟨p1, p2, p3⟩ := hps p hpm
        refine ⟨fun z => ?_, ring_stays hF hM p2 fun x hx => List.mem_append_left _ hx.1⟩
        rcases List.mem_append.mp z with z | z
        · exact hout (p.1, f) p1 rfl z
        · exact pairs_not_last hn hpm he (List.mem_singleton.mp z)
    · refine ⟨_, hF, fun x => ⟨.inl, fun h => h.elim id fun ⟨e, h1, h2, _⟩ => absurd ⟨e, h1, h2⟩ c⟩, fun p hpm => ?_⟩
      obtain ⟨p1, p2, p3⟩ := hps p hpm
      exact ⟨hout (p.1, f) p1 rfl, p2, fun _ => Iff.rfl⟩
  obtain ⟨ns, hN, hns⟩ := Fo.swaps (pairsF f (e0 :: r)).reverse hM (by rw [List.map_reverse]; exact (List.reverse_perm _).nodup_iff.mpr hnd) (fun p hpm => by
    have hpm := List.mem_reverse.mp hpm
    obtain ⟨a, b, c⟩ := hkeep p hpm
    exact ⟨a, b, (c _).mpr (hps p hpm).2.2⟩) (by
    rw [List.pairwise_reverse]
    exact hap.imp_of_mem fun {p q} hpm hqm hpq => fun z => hpq (((hkeep p hpm).2.2 _).mp z))
  refine hN.same (nums_nd _ _ _) fun x => ?_
  rw [hns x, hms x, List.map_reverse, List.map_reverse, List.mem_reverse, List.mem_reverse]
  have hgone : ∀ y, y ∈ (pairsF f (e0 :: r)).map Prod.snd → y ∈ numsFrom f 0 ws ∧ y ∈ (e0 :: r).map Prod.fst := fun y hy => by
    obtain ⟨p, hpm, rfl⟩ := List.mem_map.mp hy
    obtain ⟨q, hq, e⟩ := pairs_snd hpm
    exact ⟨(hps p hpm).2.2.1, List.mem_map.mpr ⟨q, List.mem_cons_of_mem _ hq, e⟩⟩
  constructor
  · intro h
    obtain ⟨x0, hx⟩ := nums_iff.mp h
    by_cases c : x ∈ (e0 :: r).map Prod.fst
    · obtain ⟨e, he, rfl⟩ := List.mem_map.mp c
      rw [pushL_in _ hn hb' he] at hx
      have ef : e.2 = f := V.int.inj (Option.some.inj hx)
      rcases pairs_has he ef with ⟨b, hbm⟩ | hla
      · exact .inr (List.mem_map.mpr ⟨_, hbm, rfl⟩)
      · exact .inl ⟨.inr ⟨e, hla, ef, rfl⟩, fun z => hout e he ef (hgone _ z).1⟩
    · rw [pushL_in.pushL_out _ c hb' x0] at hx
      exact .inl ⟨.inl (nums_iff.mpr ⟨x0, hx⟩), fun z => c (hgone _ z).2⟩
  · rintro (⟨h | ⟨e, h1, h2, rfl⟩, hx⟩ | h)
    · obtain ⟨x0, hw⟩ := nums_iff.mp h
      refine nums_iff.mpr ⟨x0, ?_⟩
      rw [pushL_in.pushL_out _ (fun z => ?_) hb' x0]
      · exact hw
      · obtain ⟨q, hq, rfl⟩ := List.mem_map.mp z
        rcases List.mem_cons.mp hq with rfl | hq
        · rw [h0] at hw
          cases hw
        · exact hx (pairs_gone hp q hq h)
    · have hem := List.mem_of_getLast? h1
      exact nums_iff.mpr ⟨(hb e hem).1, by rw [pushL_in _ hn hb' hem, h2]⟩
    · obtain ⟨p, hpm, rfl⟩ := List.mem_map.mp h
      have := (hps p hpm).1
      exact nums_iff.mpr ⟨(hb _ this).1, pushL_in _ hn hb' this⟩
end FF
namespace FF
open PySem PySem.Spec PyProof.Rows L2
variable [LT]
/-! ### what is reached and closed is full -/
theorem nub_one {ls : List Int} {g : Int → Int} (hne : ls ≠ []) (h : ∀ x ∈ ls, ∀ y ∈ ls, g x = g y) : (nub (ls.map g)).length = 1 := by
  cases ls with
  | nil => exact absurd rfl hne
  | cons x r =>
    have : (nub ((x :: r).map g)).length = [g x].length := nd_eq (nub_nd _) (by simp) fun k => by
      rw [mem_nub, List.mem_singleton]
      constructor
      · intro hk
        obtain ⟨y, hy, rfl⟩ := List.mem_map.mp hk
        exact h y hy x List.mem_cons_self
      · rintro rfl
        exact List.mem_map.mpr ⟨x, List.mem_cons_self, rfl⟩
    exact this
theorem tree_count {ts : List (Int × Int)} {ms : List Int} {ls : List Int} (h : Fo ts ms) (hin : ∀ m ∈ ms, (tk ts m).1 ∈ ls ∧ (tk ts m).2 ∈ ls) (hn : ls.Nodup) (hne : ls ≠ []) (hj : ∀ x ∈ ls, ∀ y ∈ ls, jn ts ms x y) : ms.length + 1 = ls.length := by
  have := lot_count (ls := ls) h.rl fun t ht => by
    obtain ⟨m, hm, rfl⟩ := List.mem_map.mp ht
    exact hin m hm
  rw [nub_one hne hj, List.map_id', nub_of_nd hn, pick_length] at this
  exact this
/-- ties that are reached: closed under pushes, and hanging together -/
structure Closed (ts : List (Int × Int)) (ws : List V) (k : Int) (R : List Int) : Prop where
  nd : R.Nodup
  rng : ∀ t ∈ R, 0 ≤ t ∧ t < (ts.length : Int)
  ring : ∀ t ∈ R, ∀ f, 0 ≤ f → f < k → ws[t.toNat]? ≠ some (.int f) → jn ts (numsFrom f 0 ws) (tk ts t).1 (tk ts t).2 ∧ ∀ x, OnR ts (numsFrom f 0 ws) t x → x ∈ R
  one : ∀ t ∈ R, ∀ s ∈ R, jn ts R (tk ts t).1 (tk ts s).1
/-- the ends of some ties -/
structure EndsOf (ts : List (Int × Int)) (R : List Int) (ls : List Int) : Prop where
  nd : ls.Nodup
  mem : ∀ x, x ∈ ls ↔ ∃ t ∈ R, x = (tk ts t).1 ∨ x = (tk ts t).2
theorem Closed.joins {ts : List (Int × Int)} {ws : List V} {k : Int} {R ls : List Int} (h : Closed ts ws k R) (hE : EndsOf ts R ls) {x y : Int} (hx : x ∈ ls) (hy : y ∈ ls) : jn ts R x y := by
  have go : ∀ z ∈ ls, ∃ t ∈ R, jn ts R z (tk ts t).1 := fun z hz => by
    obtain ⟨t, ht, e⟩ := (hE.mem z).mp hz
    refine ⟨t, ht, ?_⟩
    rcases e with rfl | rfl
    · rfl
    · exact (Leads.foldR (ts := ts) ht (.inl rfl)).symm
  obtain ⟨t, ht, e1⟩ := go x hx
  obtain ⟨s, hs, e2⟩ := go y hy
  exact e1.trans ((h.one t ht s hs).trans e2.symm)
/-- in each forest the reached ties are a tree on their ends -/
theorem Closed.tree {ts : List (Int × Int)} {ws : List V} {k : Int} {R ls : List Int} (hl : ws.length = ts.length) (h : Closed ts ws k R) (hE : EndsOf ts R ls) (hne : R ≠ []) (hf : ∀ f, ringlessF (fun x => x) (layerOf ts ws f) = true) {f : Int} (f0 : 0 ≤ f) (f1 : f < k) : inside ls (layerOf ts ws f) + 1 = ls.length := by
  have hF := (fo_nums hl).mpr (hf f)
  have hFo : Fo ts ((numsFrom f 0 ws).filter fun m => decide (m ∈ R)) := ⟨hF.nd.filter _, ringlessF_sub (List.filter_sublist.map _) hF.rl⟩
  have hlne : ls ≠ [] := by
    cases R with
    | nil => exact absurd rfl hne
    | cons t r => exact fun z => by have := (hE.mem (tk ts t).1).mpr ⟨t, List.mem_cons_self, .inl rfl⟩; rw [z] at this; cases this
  have hj : ∀ x ∈ ls, ∀ y ∈ ls, jn ts ((numsFrom f 0 ws).filter fun m => decide (m ∈ R)) x y := fun x hx y hy => by
    refine foldR_fine (g := foldR (fun x => x) (pick ts ((numsFrom f 0 ws).filter fun m => decide (m ∈ R)))) (L := pick ts R) (r := fun x => x) (fun a b e => by rw [show a = b from e]) (fun t ht => ?_) x y (h.joins hE hx hy)
    obtain ⟨m, hm, rfl⟩ := List.mem_map.mp ht
    by_cases c : ws[m.toNat]? = some (.int f)
    · have : m ∈ (numsFrom f 0 ws).filter fun m => decide (m ∈ R) := List.mem_filter.mpr ⟨nums_iff.mpr ⟨(h.rng m hm).1, c⟩, decide_eq_true hm⟩
      exact Leads.foldR (ts := ts) this (.inl rfl)
    · obtain ⟨j1, j2⟩ := h.ring m hm f f0 f1 c
      obtain ⟨ns, hR⟩ := ring_exists hF.nd j1
      have h1 := hR.mem_iff hF.rl hF.nd
      exact hR.way.joined fun x hx => List.mem_filter.mpr ⟨hR.mem x hx, decide_eq_true (j2 x ((h1 x).mp hx))⟩
  have h1 := tree_count hFo (fun m hm => by
    have := of_decide_eq_true (List.mem_filter.mp hm).2
    exact ⟨(hE.mem _).mpr ⟨m, this, .inl rfl⟩, (hE.mem _).mpr ⟨m, this, .inr rfl⟩⟩) hE.nd hlne hj
  have h2 := inside_forest (hf f) hE.nd hlne
  have h3 : ((numsFrom f 0 ws).filter fun m => decide (m ∈ R)).length ≤ inside ls (layerOf ts ws f) := by
    have e : layerOf ts ws f = pick ts (numsFrom f 0 ws) := (pick_nums f [] ts ws hl.symm).symm
    unfold inside
    rw [e]
    unfold pick
    rw [List.filter_map, List.length_map]
    refine (List.Sublist.length_le ?_)
    rw [show ((numsFrom f 0 ws).filter fun m => decide (m ∈ R)) = ((numsFrom f 0 ws).filter ((fun t => decide (t.1 ∈ ls) && decide (t.2 ∈ ls)) ∘ fun m => ts.getD m.toNat (0, 0))).filter fun m => decide (m ∈ R) from ?_]
    · exact List.filter_sublist
    · rw [List.filter_filter]
      apply List.filter_congr
      intro m _
      by_cases c : m ∈ R
      · rw [decide_eq_true c]
        show true = (true && (decide ((tk ts m).1 ∈ ls) && decide ((tk ts m).2 ∈ ls)))
        rw [decide_eq_true ((hE.mem _).mpr ⟨m, c, .inl rfl⟩), decide_eq_true ((hE.mem _).mpr ⟨m, c, .inr rfl⟩)]
        rfl
      · rw [decide_eq_false c]
        rfl
  omega
end FF
namespace FF
open PySem PySem.Spec PyProof.Rows L2
variable [LT]
theorem laid_inside (ls : List Int) : ∀ {ts : List (Int × Int)} {ws : List V}, inside ls (laidT ts ws) ≤ inside ls ts
  | [], ws => by
    unfold laidT
    rw [List.zip_nil_left]
    exact Nat.le_refl _
  | t :: ts, [] => by
    unfold laidT
    rw [List.zip_nil_right]
    exact Nat.zero_le _
  | t :: ts, x :: ws => by
    have ih := laid_inside ls (ts := ts) (ws := ws)
    rw [laidT_cons, inside_app, show t :: ts = [t] ++ ts from rfl, inside_app]
    split
    · have : inside ls [] = 0 := rfl
      omega
    · omega
theorem left_inside {ls : List Int} : ∀ {ts : List (Int × Int)} {ws : List V} {i : Nat} {t : Int × Int}, ts[i]? = some t → ws[i]? = some .non → t.1 ∈ ls → t.2 ∈ ls → inside ls (laidT ts ws) + 1 ≤ inside ls ts
  | u :: ts, x :: ws, 0, t, h1, h2, a, b => by
    cases h1
    cases h2
    rw [laidT_cons, if_pos rfl, List.nil_append, inside_cons, decide_eq_true a, decide_eq_true b]
    have := laid_inside ls (ts := ts) (ws := ws)
    show _ ≤ 1 + _
    omega
  | u :: ts, x :: ws, i + 1, t, h1, h2, a, b => by
    have ih := left_inside (ts := ts) (ws := ws) (i := i) h1 h2 a b
    rw [laidT_cons, inside_app, show u :: ts = [u] ++ ts from rfl, inside_app]
    split
    · have : inside ls [] = 0 := rfl
      omega
    · omega
  | [], _, _, _, h1, _, _, _ => by simp at h1
  | _ :: _, [], _, _, _, h2, _, _ => by simp at h2
/-- the ends of what is reached and closed are full -/
theorem Closed.full {ts : List (Int × Int)} {ws : List V} {k : Int} {R ls : List Int} (hL : LayK ts k ws) (hk : 0 ≤ k) (h : Closed ts ws k R) (hE : EndsOf ts R ls) {e : Int} (he : e ∈ R) (hn : ws[e.toNat]? = some .non) : (inside ls ts : Int) > k * ((ls.length : Int) - 1) := by
  have hne : R ≠ [] := fun z => by rw [z] at he; cases he
  have ht : (inside ls (laidT ts ws) : Int) = k * ((ls.length : Int) - 1) := by
    refine (tight_iff hL hk hE.nd ?_).mpr fun f f0 f1 => ?_
    · intro z
      have := (hE.mem (tk ts e).1).mpr ⟨e, he, .inl rfl⟩
      rw [z] at this
      cases this
    · have := h.tree hL.len hE hne hL.tree f0 f1
      omega
  have := left_inside (ls := ls) (getD_at (h.rng e he).1 (h.rng e he).2) hn ((hE.mem _).mpr ⟨e, he, .inl rfl⟩) ((hE.mem _).mpr ⟨e, he, .inr rfl⟩)
  omega
/-- a full lot lets no whole laying -/
theorem whole_inside {ts : List (Int × Int)} {ws : List V} (hl : ws.length = ts.length) (hw : ∀ x ∈ ws, x ≠ V.non) : laidT ts ws = ts := by
  induction ts generalizing ws with
  | nil =>
    unfold laidT
    rw [List.zip_nil_left]
    rfl
  | cons t ts ih =>
    cases ws with
    | nil => cases hl
    | cons x ws =>
      rw [laidT_cons, if_neg (hw x List.mem_cons_self), ih (Nat.succ.inj hl) fun y hy => hw y (List.mem_cons_of_mem _ hy)]
      rfl
theorem not_full {ts : List (Int × Int)} {k : Int} {ws : List V} (hL : LayK ts k ws) (hk : 0 ≤ k) (hw : ∀ x ∈ ws, x ≠ V.non) {ls : List Int} (hn : ls.Nodup) (hne : ls ≠ []) : (inside ls ts : Int) ≤ k * ((ls.length : Int) - 1) := by
  have e := inside_laid ls hL.len hL.each
  rw [whole_inside hL.len hw] at e
  rw [e]
  have hm := sum_most (s := (ls.length : Int) - 1) (g := fun f => (inside ls (layerOf ts ws f) : Int)) (l := upTo k) fun f _ => by
    have := inside_forest (hL.tree f) hn hne
    show (inside ls (layerOf ts ws f) : Int) ≤ _
    omega
  have hl : ((upTo k).length : Int) = k := by rw [upTo_length]; omega
  rw [hl] at hm
  exact hm.1
/-- a laying after a row of pushes without short cuts -/
theorem LayK.push {ts : List (Int × Int)} {k : Int} {ws : List V} {e0 : Int × Int} {r : List (Int × Int)} (hL : LayK ts k ws) (hn : ((e0 :: r).map Prod.fst).Nodup) (hb : ∀ e ∈ e0 :: r, (0 ≤ e.1 ∧ e.1 < (ts.length : Int)) ∧ 0 ≤ e.2 ∧ e.2 < k) (hlay : ∀ e ∈ e0 :: r, layB ws e = false) (hp : pushB ts ws (e0 :: r) = true) (h0 : ws[e0.1.toNat]? = some .non) (hc : NoCut ts ws (e0 :: r)) : LayK ts k (pushL ws (e0 :: r)) := by
  refine ⟨(pushL_length _ _).trans hL.len, ?_, row_lays hL.len hL.tree hn (fun e he => (hb e he).1) hlay hp h0 hc⟩
  have go : ∀ (es : List (Int × Int)) {ws : List V}, (∀ e ∈ es, 0 ≤ e.2 ∧ e.2 < k) → (∀ x ∈ ws, x = V.non ∨ ∃ f, x = V.int f ∧ 0 ≤ f ∧ f < k) → ∀ x ∈ pushL ws es, x = V.non ∨ ∃ f, x = V.int f ∧ 0 ≤ f ∧ f < k := fun es => by
    induction es with
    | nil => exact fun _ h => h
    | cons e es ih =>
      intro ws he h
      refine ih (ws := ws.set e.1.toNat (.int e.2)) (fun e' h' => he e' (List.mem_cons_of_mem _ h')) fun x hx => ?_
      rcases List.mem_or_eq_of_mem_set hx with hx | rfl
      · exact h x hx
      · exact .inr ⟨_, rfl, he e List.mem_cons_self⟩
  exact go _ (fun e he => (hb e he).2) hL.each
end FF
namespace FF
open PySem PySem.Spec PyProof.Rows L2
variable [LT]
/-! ### where no lot is full a whole laying is there -/
structure PRow (ts : List (Int × Int)) (ws : List V) (k : Int) (es : List (Int × Int)) : Prop where
  ne : es ≠ []
  bd : ∀ e ∈ es, (0 ≤ e.1 ∧ e.1 < (ts.length : Int)) ∧ 0 ≤ e.2 ∧ e.2 < k
  lay : ∀ e ∈ es, layB ws e = false
  push : pushB ts ws es = true
section
variable {ts : List (Int × Int)} {ws : List V} {k : Int}
theorem pushB_parts {e e' : Int × Int} {r : List (Int × Int)} : pushB ts ws (e :: e' :: r) = true ↔ joinB ts ws e = true ∧ OnRing ts ws e e'.1 ∧ pushB ts ws (e' :: r) = true := by
  show ((joinB ts ws e && @decide (OnRing ts ws e e'.1) (Classical.propDecidable _)) && pushB ts ws (e' :: r)) = true ↔ _
  rw [Bool.and_eq_true, Bool.and_eq_true, @decide_eq_true_eq _ (Classical.propDecidable _), and_assoc]
theorem PRow.tail {e e' : Int × Int} {r : List (Int × Int)} (h : PRow ts ws k (e :: e' :: r)) : PRow ts ws k (e' :: r) :=
  ⟨List.cons_ne_nil _ _, fun q hq => h.bd q (List.mem_cons_of_mem _ hq), fun q hq => h.lay q (List.mem_cons_of_mem _ hq), (pushB_parts.mp h.push).2.2⟩
theorem PRow.cons {e e' : Int × Int} {r : List (Int × Int)} (b : (0 ≤ e.1 ∧ e.1 < (ts.length : Int)) ∧ 0 ≤ e.2 ∧ e.2 < k) (l : layB ws e = false) (j : joinB ts ws e = true) (o : OnRing ts ws e e'.1) (h : PRow ts ws k (e' :: r)) : PRow ts ws k (e :: e' :: r) :=
  ⟨List.cons_ne_nil _ _, fun q hq => (List.mem_cons.mp hq).elim (fun z => z ▸ b) (h.bd q), fun q hq => (List.mem_cons.mp hq).elim (fun z => z ▸ l) (h.lay q), pushB_parts.mpr ⟨j, o, h.push⟩⟩
theorem PRow.drop : ∀ {es : List (Int × Int)} {l1 l2 : List (Int × Int)} {q : Int × Int}, PRow ts ws k es → es = l1 ++ q :: l2 → PRow ts ws k (q :: l2)
  | es, [], l2, q, h, e => by subst e; exact h
  | es, [d], l2, q, h, e => by subst e; exact PRow.tail h
  | es, d :: d' :: l1, l2, q, h, e => by subst e; exact PRow.drop (es := d' :: l1 ++ q :: l2) (PRow.tail h) rfl
/-- no row from its first tie is shorter -/
def Least (ts : List (Int × Int)) (ws : List V) (k : Int) : List (Int × Int) → Prop
  | [] => True
  | e :: r => ∀ e' r', PRow ts ws k (e' :: r') → e'.1 = e.1 → r.length ≤ r'.length
theorem Least.tail {e e' : Int × Int} {r : List (Int × Int)} (h : PRow ts ws k (e :: e' :: r)) (m : Least ts ws k (e :: e' :: r)) : Least ts ws k (e' :: r) := fun d r' hd ed => by
  have p := pushB_parts.mp h.push
  have := m e (d :: r') (PRow.cons (h.bd e List.mem_cons_self) (h.lay e List.mem_cons_self) p.1 (by rw [ed]; exact p.2.1) hd) rfl
  rw [List.length_cons, List.length_cons] at this
  omega
theorem Least.nocut : ∀ {es : List (Int × Int)}, PRow ts ws k es → Least ts ws k es → NoCut ts ws es ∧ (es.map Prod.fst).Nodup
  | [], h, _ => absurd rfl h.ne
  | [e], _, _ => ⟨⟨(fun _ z => nomatch z), trivial⟩, by simp⟩
  | e :: e' :: r, h, m => by
    obtain ⟨i1, i2⟩ := Least.nocut (PRow.tail h) (m.tail h)
    have p := pushB_parts.mp h.push
    refine ⟨⟨fun q hq z => ?_, i1⟩, ?_⟩
    · obtain ⟨l1, l2, el⟩ := List.append_of_mem (show q ∈ r from hq)
      have hd := PRow.drop (l1 := e :: e' :: l1) (l2 := l2) (q := q) h (by rw [el]; rfl)
      have := m e (q :: l2) (PRow.cons (h.bd e List.mem_cons_self) (h.lay e List.mem_cons_self) p.1 z hd) rfl
      rw [el, List.length_cons, List.length_append, List.length_cons] at this
      omega
    · show (e.1 :: (e' :: r).map Prod.fst).Nodup
      rw [List.nodup_cons]
      refine ⟨fun z => ?_, i2⟩
      obtain ⟨q, hq, eq⟩ := List.mem_map.mp z
      obtain ⟨l1, l2, el⟩ := List.append_of_mem hq
      have hd := PRow.drop (l1 := e :: l1) (l2 := l2) (q := q) h (by rw [el]; rfl)
      have := m q l2 hd eq
      rw [el, List.length_append, List.length_cons] at this
      omega
/-- what pushes come to from e -/
inductive Rch (ts : List (Int × Int)) (ws : List V) (k : Int) (e : Int) : Int → Prop where
  | base : Rch ts ws k e e
  | step {s t f : Int} (h : Rch ts ws k e s) (f0 : 0 ≤ f) (f1 : f < k) (hn : ws[s.toNat]? ≠ some (.int f)) (hj : jn ts (numsFrom f 0 ws) (tk ts s).1 (tk ts s).2) (ho : OnR ts (numsFrom f 0 ws) s t) : Rch ts ws k e t
theorem Rch.rng {e t : Int} (hl : ws.length = ts.length) (h : Rch ts ws k e t) (he : 0 ≤ e ∧ e < (ts.length : Int)) : 0 ≤ t ∧ t < (ts.length : Int) := by
  induction h with
  | base => exact he
  | step _ _ _ _ _ ho _ =>
    obtain ⟨h0, h1⟩ := nums_iff.mp ho.1
    have := (List.getElem?_eq_some_iff.mp h1).1
    exact ⟨h0, by omega⟩
theorem layB_ne {s f : Int} (h : ws[s.toNat]? ≠ some (.int f)) : layB ws (s, f) = false := decide_eq_false h
theorem Rch.back {e t : Int} (hl : ws.length = ts.length) (h : Rch ts ws k e t) (he : 0 ≤ e ∧ e < (ts.length : Int)) : (∃ d r, PRow ts ws k (d :: r) ∧ d.1 = t) → ∃ d r, PRow ts ws k (d :: r) ∧ d.1 = e := by
  induction h with
  | base => exact id
  | @step s t f hs f0 f1 hn hj ho ih =>
    rintro ⟨d, r, hp, rfl⟩
    exact ih ⟨(s, f), d :: r, PRow.cons ⟨hs.rng hl he, f0, f1⟩ (layB_ne hn) ((jn_join (e := (s, f)) hl).mpr hj) ho hp, rfl⟩
end
end FF
namespace FF
open PySem PySem.Spec PyProof.Rows L2
variable [LT]
/-! ### all ways to lay -/
end FF
namespace FF
open PySem PySem.Spec PyProof.Rows L2
variable [LT]
/-! ### things as entries and rows -/
/-- a thing as an entry: two values, or nothing of the kind -/
inductive EntT (H : Hp) : V → Option (V × V) → Prop where
  | no {t : V} {n : String} (h : TyN H t n) (hn : n ≠ "tuple") : EntT H t none
  | odd {a : Addr} {xs : List V} (h : H a = some (.tup xs)) (hl : xs.length ≠ 2) : EntT H (.ref a) none
  | yes {a : Addr} {x y : V} {n m : String} (h : H a = some (.tup [x, y])) (hx : TyN H x n) (hy : TyN H y m) : EntT H (.ref a) (some (x, y))
theorem EntT.mono {H H' : Hp} {t : V} {o : Option (V × V)} (h : EntT H t o) (k : ∀ q xs, H q = some (.tup xs) → H' q = some (.tup xs)) (y : ∀ v n, TyN H v n → TyN H' v n) : EntT H' t o := by
  cases h with
  | no h hn => exact .no (y _ _ h) hn
  | odd h hl => exact .odd (k _ _ h) hl
  | yes h hx hy => exact .yes (k _ _ h) (y _ _ hx) (y _ _ hy)
theorem EntT.ty {H : Hp} {x : V} {o : Option (V × V)} (h : EntT H x o) : ∃ n, TyN H x n := by
  cases h with
  | no h _ => exact ⟨_, h⟩
  | odd h _ => exact ⟨_, .tup h⟩
  | yes h _ _ => exact ⟨_, .tup h⟩
/-- a thing that can be asked as an entry -/
def EG (H : Hp) (x : V) : Prop := ∃ o, EntT H x o
theorem EG.mono {H H' : Hp} {x : V} (h : EG H x) (k : ∀ q xs, H q = some (.tup xs) → H' q = some (.tup xs)) (y : ∀ v n, TyN H v n → TyN H' v n) : EG H' x := h.elim fun o z => ⟨o, z.mono k y⟩
theorem EG.ke {H H' : Hp} {x : V} (h : EG H x) (k : Ke H H') : EG H' x := h.mono (fun _ _ => k.tup) fun _ _ z => z.ke k
theorem EG.new {H : Hp} {p : Addr} {o : HO} {x : V} (h : EG H x) (k : H p = none) : EG (upd H p o) x := h.ke (Ke.new k)
theorem EG.put {H : Hp} {p : Addr} {ys zs : List V} {x : V} (h : EG H x) (k : H p = some (.lst zs)) : EG (upd H p (.lst ys)) x := h.mono (fun q xs e => by rw [upd_ne (ne_of e k (fun z => nomatch z))]; exact e) fun _ _ z => z.put k
theorem EG.dk {H H' : Hp} {p : Addr} {x : V} (h : EG H x) (k : Dk p H H') (d : Deck H p) : EG H' x := h.mono (fun _ _ => k.tup d) fun _ _ z => z.dk k d
theorem EG.pair {H : Hp} {a : Addr} {x y : V} {n m : String} (h : H a = some (.tup [x, y])) (hx : TyN H x n) (hy : TyN H y m) : EG H (.ref a) := ⟨_, .yes h hx hy⟩
theorem EG.odd {H : Hp} {a : Addr} {xs : List V} (h : H a = some (.tup xs)) (hl : xs.length ≠ 2) : EG H (.ref a) := ⟨_, .odd h hl⟩
theorem EG.ty {H : Hp} {x : V} {n : String} (h : TyN H x n) (hn : n ≠ "tuple") : EG H x := ⟨_, .no h hn⟩
theorem Ties.eg {H : Hp} {rs : List V} {es : List (Int × Int)} (h : Ties H rs es) : ∀ x ∈ rs, EG H x := fun x hx => by
  obtain ⟨i, hi⟩ := List.getElem?_of_mem hx
  obtain ⟨e, q, _, rfl, hq⟩ := h.get hi
  exact EG.pair hq (.int _) (.int _)
end FF
namespace FF
open PySem PySem.Spec PyProof.Rows L2
variable [LT]
/-! ### levels, and all pushers with their rings -/
open Classical in
noncomputable def lowB (ts : List (Int × Int)) (ws : List V) (e : Int × Int) (m : Int) (ls : List Int) : Bool := if joinB ts ws e = true then decide (∀ x, OnRing ts ws e x → hat ls x ≤ hat ls e.1 + 1) else decide (hat ls e.1 ≥ m - 1)
/-- what is pushed out of forest f is low enough -/
def LowF (ts : List (Int × Int)) (ws : List V) (tie : Nat) (m : Int) (ls : List Int) (f : Int) : Prop := ∀ i : Nat, i < ts.length → (i = tie ∨ ws[i]? ≠ some .non) → ws[i]? ≠ some (.int f) → lowB ts ws ((i : Int), f) m ls = true
def LevP (ts : List (Int × Int)) (k : Int) (ws : List V) (tie : Nat) (m : Int) (ls : List Int) : Prop := hat ls (tie : Int) = 0 ∧ ∀ f, 0 ≤ f → f < k → LowF ts ws tie m ls f
theorem shareV {C : Prop} {R : Hp → V → Prop} (P1 : Hp → V → Prop) (h1 : ∀ G a, R G a → P1 G a) (main : (∀ G a, R G a → P1 G a) → C) : C := main h1
end FF
namespace FF
open PySem PySem.Spec PyProof.Rows L2
variable [LT]
/-! ### slices of tuples that are known to the object -/
section
variable {X : Cx} {K : PySem.W.Frag}
def rSlF (_ : PySem.W.Frag) : V → Option Int → Option Int → Hp → VK → Prop := fun x lo hi H Q => ∃ a xs, x = .ref a ∧ TF H a xs ∧ ∀ p H', Ke H H' → TF H' p (cutV xs lo hi) → Q (.ref p) H'
theorem cut_whole {xs : List V} {lo hi : Option Int} (h : HT.sIx xs.length 0 lo = 0 ∧ HT.sIx xs.length xs.length hi = xs.length) : cutV xs lo hi = xs := by
  unfold cutV
  rw [h.1, h.2, List.drop_zero, Nat.sub_zero, List.take_length]
theorem sl_tupF (h : X.K = K := by rfl) : L2.SlR X (rSlF K) := by
  subst h
  intro pins s σ H x v vl vu lo hi sl Q I rx hs pl pu hq
  obtain ⟨a, xs, rfl, hx, q⟩ := hq
  by_cases hw : HT.sIx xs.length 0 lo = 0 ∧ HT.sIx xs.length xs.length hi = xs.length
  · exact sl_tupA pins s σ H _ v vl vu lo hi sl Q I rx hs pl pu ⟨a, xs, rfl, hx.sq, fun _ => q a H .refl (by rw [cut_whole hw]; exact hx), fun z => absurd hw z⟩
  · cases rx
    obtain ⟨its, r', tt, hz⟩ := I.tuple (hx.sq (K := X.K))
    have hsz := r'.length
    have esz : its.toArray.size = xs.length := by rw [List.size_toArray]; omega
    have vc := (r'.drop (HT.sIx xs.length 0 lo)).take (HT.sIx xs.length xs.length hi - HT.sIx xs.length 0 lo)
    have np : H s.heap.objs.size = none := I.hok.fresh (Nat.le_refl _)
    have lc := Nat.le_trans (cutV_length xs lo hi) (by omega : xs.length ≤ sizeLine)
    refine ⟨"tuple", _, PyProof.Rows.slot_tuple_getitem.lookup, tt.typeIs, HT.getItem_tuple_cut tt hs pl pu (by rw [esz]; exact hw) ?_ (by omega)⟩
    refine ⟨.ref s.heap.objs.size, upd H s.heap.objs.size (.frz { cls := .type "tuple", data := .seq (((its.drop (HT.sIx xs.length 0 lo)).take (HT.sIx xs.length xs.length hi - HT.sIx xs.length 0 lo))).toArray } (.tup (cutV xs lo hi))), ?_, rfl, q _ _ (Ke.new np) ⟨_, upd_same, rfl⟩⟩
    rw [esz]
    refine I.laid (t' := s.toks) (fun b ob e => Heap.get?_push_of_some _ e) (Nat.le_refl _) ?_
    exact ⟨Heap.get?_push_size _ rfl, lc, _, vc, IsTup.new _ _⟩
end
/-! ### layers of ways: how many earlier ties go the same way -/
end FF
namespace FF
open PySem PySem.Spec PyProof.Rows L2
variable [LT]
/-! ### each piece of a layer of ways has no more ties than points -/
end FF
namespace FF
open PySem PySem.Spec PyProof.Rows L2
variable [LT]
/-! ### {e for x in xs for y in ys}: a set of ints of two walks, no test -/
section
open PySem.Spec
abbrev two (elt t0 i0 t1 i1 : Expr) (scope : Scope) (pos : Pos) : Expr := .SetComp elt [⟨t0, i0, [], 0⟩, ⟨t1, i1, [], 0⟩] scope pos
end
section
open PySem.Spec
variable {prog : Program} {w : World} {A : Around} {R : Result → Shared → Prop} {s : Shared}
end
section
variable {X : Cx}
end
end FF
namespace FF
open PySem PySem.Spec PyProof.Rows L2
variable [LT]
/-! ### rows as the program and the laws tell of them -/
end FF
namespace FF
open PySem PySem.Spec PyProof.Rows L2
variable [LT]
/-! ### the search for a free tie: who pushes whom, and how far each is -/
section
variable {ts : List (Int × Int)} {ws : List V} {k : Int}
/-- levels tell how short a row may be -/
theorem LevP.least {tie : Nat} {m : Int} {ls : List Int} (hw : ws.length = ts.length) (h : LevP ts k ws tie m ls) : ∀ {es : List (Int × Int)} {e : Int × Int} {r : List (Int × Int)}, es = e :: r → PRow ts ws k es → (e.1 = tie ∨ ws[e.1.toNat]? ≠ some .non) → m ≤ es.length + hat ls e.1
  | [], _, _, h0, _, _ => nomatch h0
  | [e], _, _, h0, hp, hx => by
    cases h0
    obtain ⟨⟨a0, a1⟩, f0, f1⟩ := hp.bd e (List.mem_singleton.mpr rfl)
    have hj : joinB ts ws e = false := by
      have := hp.push
      show joinB ts ws e = false
      have this : (!joinB ts ws e) = true := this
      cases z : joinB ts ws e with
      | false => rfl
      | true => rw [z] at this; cases this
    obtain ⟨i, hi⟩ : ∃ i : Nat, e.1 = i := ⟨e.1.toNat, by omega⟩
    have hl := h.2 e.2 f0 f1 i (by omega) (hx.imp (fun z => by omega) fun z => by rw [hi, Int.toNat_natCast] at z; exact z) (fun z => by
      have := hp.lay e (List.mem_singleton.mpr rfl)
      unfold layB at this
      rw [hi, Int.toNat_natCast, decide_eq_true z] at this
      cases this)
    rw [show (((i : Nat) : Int), e.2) = e by rw [← hi]] at hl
    unfold lowB at hl
    rw [if_neg (by rw [hj]; decide)] at hl
    have := of_decide_eq_true hl
    show m ≤ 1 + hat ls e.1
    omega
  | e :: e' :: r, _, _, h0, hp, hx => by
    cases h0
    obtain ⟨⟨a0, a1⟩, f0, f1⟩ := hp.bd e List.mem_cons_self
    obtain ⟨hj, ho, _⟩ := pushB_parts.mp hp.push
    obtain ⟨i, hi⟩ : ∃ i : Nat, e.1 = i := ⟨e.1.toNat, by omega⟩
    have hl := h.2 e.2 f0 f1 i (by omega) (hx.imp (fun z => by omega) fun z => by rw [hi, Int.toNat_natCast] at z; exact z) (fun z => by
      have := hp.lay e List.mem_cons_self
      unfold layB at this
      rw [hi, Int.toNat_natCast, decide_eq_true z] at this
      cases this)
    rw [show (((i : Nat) : Int), e.2) = e by rw [← hi]] at hl
    unfold lowB at hl
    rw [if_pos hj] at hl
    have h1 := (@of_decide_eq_true _ (Classical.propDecidable _) hl) e'.1 ho
    have h2 := LevP.least hw h rfl hp.tail (.inr fun z => by
      have := (nums_iff.mp ho.1).2
      rw [this] at z
      cases z)
    rw [List.length_cons] at h2 ⊢
    have : ((r.length + 1 + 1 : Nat) : Int) = ((r.length + 1 : Nat) : Int) + 1 := by omega
    show m ≤ (((e' :: r).length + 1 : Nat) : Int) + hat ls e.1
    rw [List.length_cons]
    omega
theorem LevP.Least {tie : Nat} {ls : List Int} (hw : ws.length = ts.length) {e : Int × Int} {r : List (Int × Int)} (h : LevP ts k ws tie ((e :: r).length : Int) ls) (he : e.1 = tie) : FF.Least ts ws k (e :: r) := fun e' r' hp he' => by
  have := LevP.least hw h (es := e' :: r') rfl hp (.inl (he'.trans he))
  rw [he'.trans he, h.1, List.length_cons, List.length_cons] at this
  omega
/-- what pushes come to, closed -/
theorem closed_keys {e : Int} {R : List Int} (hL : LayK ts k ws) (he : 0 ≤ e ∧ e < (ts.length : Int)) (hnd : R.Nodup) (mem : ∀ t, t ∈ R ↔ Rch ts ws k e t) (ring : ∀ t, Rch ts ws k e t → ∀ f, 0 ≤ f → f < k → ws[t.toNat]? ≠ some (.int f) → jn ts (numsFrom f 0 ws) (tk ts t).1 (tk ts t).2 ∧ ∀ x, OnR ts (numsFrom f 0 ws) t x → Rch ts ws k e x) : Closed ts ws k R := by
  have hl := hL.len
  refine ⟨hnd, fun t ht => ((mem t).mp ht).rng hl he, fun t ht f f0 f1 hn => ?_, fun t ht s hs => ?_⟩
  · obtain ⟨a, b⟩ := ring t ((mem t).mp ht) f f0 f1 hn
    exact ⟨a, fun x hx => (mem x).mpr (b x hx)⟩
  · have go : ∀ t, Rch ts ws k e t → jn ts R (tk ts t).1 (tk ts e).1 := fun t ht => by
      induction ht with
      | base => rfl
      | @step s t f hs f0 f1 hn hj ho ih =>
        obtain ⟨_, hring⟩ := ring s hs f f0 f1 hn
        have hF := (fo_nums hl).mpr (hL.tree f)
        obtain ⟨ns, hRg⟩ := ring_exists hF.nd hj
        have h1 := hRg.mem_iff hF.rl hF.nd
        have hsub : ∀ x ∈ ns, x ∈ R := fun x hx => (mem x).mpr (hring x ((h1 x).mp hx))
        obtain ⟨l1, l2, u, v, el, w1, w2, w3⟩ := hRg.way.cut ((h1 t).mpr ho)
        have e1 : jn ts R (tk ts s).1 u := w1.joined fun x hx => hsub x (by rw [el]; exact List.mem_append_left _ hx)
        have htR : t ∈ R := (mem t).mpr (.step hs f0 f1 hn hj ho)
        have e2 : jn ts R (tk ts t).1 (tk ts t).2 := Leads.foldR (ts := ts) htR (.inl rfl)
        have e3 : jn ts R (tk ts t).1 u := by
          rcases w2 with w2 | w2
          · have : (tk ts t) = (u, v) := w2
            rw [this]
          · have : (tk ts t) = (v, u) := w2
            rw [this] at e2 ⊢
            exact e2
        exact e3.trans (e1.symm.trans ih)
    exact (go t ((mem t).mp ht)).trans (go s ((mem s).mp hs)).symm
/-- keys with who pushes them, in the order of coming; lv: how far they are; the first a of them looked through -/
structure Bfs (ts : List (Int × Int)) (ws : List V) (k : Int) (tie : Nat) (fl : List (Int × Option (Int × Int))) (lv : Nat → Nat) (a : Nat) : Prop where
  head : fl[0]? = some ((tie : Int), none)
  nd : (fl.map Prod.fst).Nodup
  rng : ∀ x ∈ fl.map Prod.fst, 0 ≤ x ∧ x < (ts.length : Int)
  par : ∀ (i : Nat) x s f, fl[i]? = some (x, some (s, f)) → ∃ j, j < i ∧ (∃ o, fl[j]? = some (s, o)) ∧ lv i = lv j + 1 ∧ (0 ≤ f ∧ f < k) ∧ ws[s.toNat]? ≠ some (.int f) ∧ joinB ts ws (s, f) = true ∧ OnRing ts ws (s, f) x
  root : ∀ (i : Nat) x, fl[i]? = some (x, none) → i = 0
  lv0 : lv 0 = 0
  mono : ∀ i j, i ≤ j → j < fl.length → lv i ≤ lv j
  near : ∀ i, i < fl.length → a < fl.length → lv i ≤ lv a + 1
  done : ∀ j, j < a → ∀ s o, fl[j]? = some (s, o) → ∀ f, 0 ≤ f → f < k → ws[s.toNat]? ≠ some (.int f) → joinB ts ws (s, f) = true ∧ ∀ x, OnRing ts ws (s, f) x → ∃ i o', fl[i]? = some (x, o') ∧ lv i ≤ lv j + 1
variable {tie : Nat} {fl : List (Int × Option (Int × Int))} {lv : Nat → Nat} {a : Nat}
theorem Bfs.start (ht : tie < ts.length) : Bfs ts ws k tie [((tie : Int), none)] (fun _ => 0) 0 :=
  ⟨rfl, by simp, fun x hx => by rw [List.mem_singleton.mp hx]; omega, fun i x s f h => by
    cases i with
    | zero => cases h
    | succ i => simp at h, fun i x h => by
    cases i with
    | zero => rfl
    | succ i => simp at h, rfl, fun _ _ _ _ => Nat.le_refl _, fun _ _ _ => Nat.zero_le _, fun j hj => by omega⟩
theorem Bfs.add (h : Bfs ts ws k tie fl lv a) (hw : ws.length = ts.length) {s x f : Int} {o : Option (Int × Int)} (ha : fl[a]? = some (s, o)) (hx : x ∉ fl.map Prod.fst) (f0 : 0 ≤ f) (f1 : f < k) (hn : ws[s.toNat]? ≠ some (.int f)) (hj : joinB ts ws (s, f) = true) (ho : OnRing ts ws (s, f) x) : Bfs ts ws k tie (fl ++ [(x, some (s, f))]) (fun i => if i = fl.length then lv a + 1 else lv i) a := by
  have al : a < fl.length := (List.getElem?_eq_some_iff.mp ha).1
  have old : ∀ {i : Nat} {p}, fl[i]? = some p → (fl ++ [(x, some (s, f))])[i]? = some p ∧ i ≠ fl.length := fun {i p} e => by
    have := (List.getElem?_eq_some_iff.mp e).1
    exact ⟨by rw [List.getElem?_append_left this]; exact e, by omega⟩
  have cases_ : ∀ {i : Nat} {p}, (fl ++ [(x, some (s, f))])[i]? = some p → fl[i]? = some p ∨ (i = fl.length ∧ p = (x, some (s, f))) := fun {i p} e => by
    by_cases c : i < fl.length
    · rw [List.getElem?_append_left c] at e
      exact .inl e
    · have := (List.getElem?_eq_some_iff.mp e).1
      rw [List.length_append] at this
      have ei : i = fl.length := by
        have : i < fl.length + 1 := this
        omega
      rw [ei, List.getElem?_append_right (Nat.le_refl _), Nat.sub_self] at e
      exact .inr ⟨ei, (Option.some.inj e).symm⟩
  refine ⟨(old h.head).1, ?_, fun y hy => ?_, fun i y s' f' e => ?_, fun i y e => ?_, ?_, fun i j hij hj' => ?_, fun i hi _ => ?_, fun j hj' s' o' e f' g0 g1 hn' => ?_⟩
  · rw [List.map_append, List.nodup_append]
    exact ⟨h.nd, by simp, fun y hy z hz => by
      have e9 : z = x := List.mem_singleton.mp hz
      rw [e9]
      exact fun q => hx (by rw [← q]; exact hy)⟩
  · rw [List.map_append] at hy
    rcases List.mem_append.mp hy with hy | hy
    · exact h.rng y hy
    · have e9 : y = x := List.mem_singleton.mp hy
      rw [e9]
      have := nums_iff.mp ho.1
      refine ⟨this.1, ?_⟩
      have := (List.getElem?_eq_some_iff.mp this.2).1
      omega
  · rcases cases_ e with e | ⟨ei, e2⟩
    · obtain ⟨j, hj1, ⟨o', e'⟩, hl, r⟩ := h.par i y s' f' e
      refine ⟨j, hj1, ⟨o', (old e').1⟩, ?_, r⟩
      rw [if_neg (old e).2, if_neg (old e').2]
      exact hl
    · cases e2
      rw [ei]
      refine ⟨a, al, ⟨o, (old ha).1⟩, ?_, ⟨f0, f1⟩, hn, hj, ho⟩
      rw [if_pos rfl, if_neg (by omega)]
  · rcases cases_ e with e | ⟨_, e2⟩
    · exact h.root i y e
    · cases e2
  · show (if 0 = fl.length then _ else _) = 0
    rw [if_neg (by omega)]
    exact h.lv0
  · rw [List.length_append] at hj'
    have hj' : j < fl.length + 1 := hj'
    show (if i = fl.length then _ else _) ≤ (if j = fl.length then _ else _)
    by_cases c2 : j = fl.length
    · rw [if_pos c2]
      by_cases c1 : i = fl.length
      · rw [if_pos c1]
        exact Nat.le_refl _
      · rw [if_neg c1]
        exact h.near i (by omega) al
    · rw [if_neg c2, if_neg (by omega)]
      exact h.mono i j hij (by omega)
  · rw [List.length_append] at hi
    have hi : i < fl.length + 1 := hi
    show (if i = fl.length then _ else _) ≤ (if a = fl.length then _ else _) + 1
    rw [if_neg (show ¬ a = fl.length by omega)]
    by_cases c1 : i = fl.length
    · rw [if_pos c1]
      exact Nat.le_refl _
    · rw [if_neg c1]
      exact h.near i (by omega) al
  · rcases cases_ e with e | ⟨rfl, e⟩
    · obtain ⟨b1, b2⟩ := h.done j hj' s' o' e f' g0 g1 hn'
      refine ⟨b1, fun y hy => ?_⟩
      obtain ⟨i, o'', e', hl⟩ := b2 y hy
      refine ⟨i, o'', (old e').1, ?_⟩
      rw [if_neg (old e').2, if_neg (old e).2]
      exact hl
    · omega
theorem Bfs.next (h : Bfs ts ws k tie fl lv a) {s : Int} {o : Option (Int × Int)} (ha : fl[a]? = some (s, o)) (hd : ∀ f, 0 ≤ f → f < k → ws[s.toNat]? ≠ some (.int f) → joinB ts ws (s, f) = true ∧ ∀ x, OnRing ts ws (s, f) x → x ∈ fl.map Prod.fst) : Bfs ts ws k tie fl lv (a + 1) := by
  have al : a < fl.length := (List.getElem?_eq_some_iff.mp ha).1
  refine ⟨h.head, h.nd, h.rng, h.par, h.root, h.lv0, h.mono, fun i hi ha' => ?_, fun j hj s' o' e f f0 f1 hn => ?_⟩
  · have h1 := h.near i hi al
    have h2 := h.mono a (a + 1) (by omega) ha'
    omega
  · by_cases c : j < a
    · exact h.done j c s' o' e f f0 f1 hn
    · have ej : j = a := by omega
      subst ej
      rw [ha] at e
      cases e
      obtain ⟨b1, b2⟩ := hd f f0 f1 hn
      refine ⟨b1, fun x hx => ?_⟩
      obtain ⟨p, hp, rfl⟩ := List.mem_map.mp (b2 x hx)
      obtain ⟨i, hi⟩ := List.getElem?_of_mem hp
      exact ⟨i, p.2, hi, h.near i (List.getElem?_eq_some_iff.mp hi).1 al⟩
/-- one push more ahead of a row -/
theorem Bfs.step (h : Bfs ts ws k tie fl lv a) {i : Nat} {x s f g : Int} {r : List (Int × Int)} (e : fl[i]? = some (x, some (s, f))) (hp : PRow ts ws k ((x, g) :: r)) : PRow ts ws k ((s, f) :: (x, g) :: r) ∧ ∃ j o, j < i ∧ fl[j]? = some (s, o) ∧ lv i = lv j + 1 := by
  obtain ⟨j, hj, ⟨o', e'⟩, hlv, hf, hn, hjn, ho⟩ := h.par i x s f e
  exact ⟨hp.cons ⟨h.rng s (List.mem_map.mpr ⟨_, List.mem_of_getElem? e', rfl⟩), hf⟩ (layB_ne hn) hjn ho, j, o', hj, e', hlv⟩
theorem Bfs.key (h : Bfs ts ws k tie fl lv a) {i : Nat} {p : Int × Option (Int × Int)} (e : fl[i]? = some p) : p.1 ∈ fl.map Prod.fst := List.mem_map.mpr ⟨p, List.mem_of_getElem? e, rfl⟩
theorem Bfs.one (h : Bfs ts ws k tie fl lv a) {i j : Nat} {x : Int} {o o' : Option (Int × Int)} (e : fl[i]? = some (x, o)) (e' : fl[j]? = some (x, o')) : i = j := by
  have hi : (fl.map Prod.fst)[i]? = some x := by rw [List.getElem?_map, e]; rfl
  have hj : (fl.map Prod.fst)[j]? = some x := by rw [List.getElem?_map, e']; rfl
  obtain ⟨li, ei⟩ := List.getElem?_eq_some_iff.mp hi
  obtain ⟨lj, ej⟩ := List.getElem?_eq_some_iff.mp hj
  exact (List.getElem_inj h.nd).mp (ei.trans ej.symm)
theorem Bfs.levels (h : Bfs ts ws k tie fl lv a) (al : a < fl.length) {ls : List Int} (h1 : ∀ i x o, fl[i]? = some (x, o) → hat ls x = lv i) (h2 : ∀ x, 0 ≤ x → x < (ts.length : Int) → x ∉ fl.map Prod.fst → hat ls x = (lv a : Int) + 1) (hw : ws.length = ts.length) : LevP ts k ws tie ((lv a : Int) + 1) ls := by
  refine ⟨(h1 0 _ _ h.head).trans (by rw [h.lv0]; rfl), fun f f0 f1 s hs hp hn => ?_⟩
  have top : ∀ x, 0 ≤ x → x < (ts.length : Int) → hat ls x ≤ (lv a : Int) + 1 := fun x x0 x1 => by
    by_cases c : x ∈ fl.map Prod.fst
    · obtain ⟨p, hp, rfl⟩ := List.mem_map.mp c
      obtain ⟨i, hi⟩ := List.getElem?_of_mem hp
      rw [h1 i p.1 p.2 hi]
      have := h.near i (List.getElem?_eq_some_iff.mp hi).1 al
      omega
    · rw [h2 x x0 x1 c]
      exact Int.le_refl _
  have ringr : ∀ x, OnRing ts ws ((s : Int), f) x → 0 ≤ x ∧ x < (ts.length : Int) := fun x hx => by
    obtain ⟨x0, hx'⟩ := nums_iff.mp hx.1
    have := (List.getElem?_eq_some_iff.mp hx').1
    exact ⟨x0, by omega⟩
  unfold lowB
  by_cases cj : joinB ts ws ((s : Int), f) = true
  · rw [if_pos cj]
    refine @decide_eq_true _ (Classical.propDecidable _) fun x hx => ?_
    obtain ⟨x0, x1⟩ := ringr x hx
    have ht := top x x0 x1
    by_cases c : (s : Int) ∈ fl.map Prod.fst
    · obtain ⟨p, hp', ep⟩ := List.mem_map.mp c
      obtain ⟨j, hj⟩ := List.getElem?_of_mem hp'
      have ej := h1 j p.1 p.2 hj
      rw [ep] at ej
      show hat ls x ≤ hat ls (s : Int) + 1
      by_cases cja : j < a
      · obtain ⟨_, b2⟩ := h.done j cja p.1 p.2 hj f f0 f1 (by rw [ep, Int.toNat_natCast]; exact hn)
        rw [ep] at b2
        obtain ⟨i, o', hi, hl⟩ := b2 x hx
        rw [h1 i x o' hi, ej]
        omega
      · have := h.mono a j (by omega) (List.getElem?_eq_some_iff.mp hj).1
        omega
    · have := h2 (s : Int) (by omega) (by omega) c
      show hat ls x ≤ hat ls (s : Int) + 1
      omega
  · have cj : joinB ts ws ((s : Int), f) = false := by simpa using cj
    rw [if_neg (by rw [cj]; decide)]
    refine decide_eq_true ?_
    show hat ls (s : Int) ≥ (lv a : Int) + 1 - 1
    by_cases c : (s : Int) ∈ fl.map Prod.fst
    · obtain ⟨p, hp', ep⟩ := List.mem_map.mp c
      obtain ⟨j, hj⟩ := List.getElem?_of_mem hp'
      have ej := h1 j p.1 p.2 hj
      rw [ep] at ej
      by_cases cja : j < a
      · obtain ⟨b1, _⟩ := h.done j cja p.1 p.2 hj f f0 f1 (by rw [ep, Int.toNat_natCast]; exact hn)
        rw [ep, cj] at b1
        cases b1
      · have := h.mono a j (by omega) (List.getElem?_eq_some_iff.mp hj).1
        omega
    · have := h2 (s : Int) (by omega) (by omega) c
      omega
theorem Bfs.rch (h : Bfs ts ws k tie fl lv a) (hw : ws.length = ts.length) : ∀ (n i : Nat), i ≤ n → ∀ x o, fl[i]? = some (x, o) → Rch ts ws k (tie : Int) x
  | n, i, _, x, none, e => by
    have ei := h.root i x e
    subst ei
    rw [h.head] at e
    cases e
    exact .base
  | 0, i, hi, x, some (s, f), e => by
    obtain ⟨j, hj, _⟩ := h.par i x s f e
    omega
  | n + 1, i, hi, x, some (s, f), e => by
    obtain ⟨j, hj, ⟨o', e'⟩, _, ⟨f0, f1⟩, hn, hjn, ho⟩ := h.par i x s f e
    exact .step (h.rch hw n j (by omega) s o' e') f0 f1 hn ((jn_join (e := (s, f)) hw).mp hjn) ho
theorem Bfs.mem_rch (h : Bfs ts ws k tie fl lv a) (ha : fl.length ≤ a) (hw : ws.length = ts.length) : ∀ t, t ∈ fl.map Prod.fst ↔ Rch ts ws k (tie : Int) t := fun t => by
  constructor
  · intro z
    obtain ⟨p, hp, rfl⟩ := List.mem_map.mp z
    obtain ⟨i, hi⟩ := List.getElem?_of_mem hp
    exact h.rch hw i i (Nat.le_refl _) p.1 p.2 hi
  · intro z
    induction z with
    | base => exact h.key h.head
    | @step s t f hs f0 f1 hn hj ho ih =>
      obtain ⟨p, hp, rfl⟩ := List.mem_map.mp ih
      obtain ⟨j, hj'⟩ := List.getElem?_of_mem hp
      have jl := (List.getElem?_eq_some_iff.mp hj').1
      obtain ⟨_, b2⟩ := h.done j (by omega) p.1 p.2 hj' f f0 f1 hn
      obtain ⟨i, o', hi, _⟩ := b2 t ho
      exact h.key hi
theorem Bfs.closed (h : Bfs ts ws k tie fl lv a) (ha : fl.length ≤ a) (hL : LayK ts k ws) (ht : tie < ts.length) : Closed ts ws k (fl.map Prod.fst) := by
  have hw := hL.len
  have mem := h.mem_rch ha hw
  refine closed_keys hL ⟨by omega, by omega⟩ h.nd mem fun t ht' f f0 f1 hn => ?_
  obtain ⟨p, hp, rfl⟩ := List.mem_map.mp ((mem t).mpr ht')
  obtain ⟨j, hj'⟩ := List.getElem?_of_mem hp
  have jl := (List.getElem?_eq_some_iff.mp hj').1
  obtain ⟨b1, b2⟩ := h.done j (by omega) p.1 p.2 hj' f f0 f1 hn
  refine ⟨(jn_join (e := (p.1, f)) hw).mp b1, fun x hx => ?_⟩
  obtain ⟨i, o', hi, _⟩ := b2 x hx
  exact h.rch hw i i (Nat.le_refl _) x o' hi
/-- a row as long as the levels tell lays the tie -/
theorem PRow.lays {ls : List Int} {e : Int × Int} {r : List (Int × Int)} (hL : LayK ts k ws) (hp : PRow ts ws k (e :: r)) (he : e.1 = tie) (hl : LevP ts k ws tie ((e :: r).length : Int) ls) (h0 : ws[tie]? = some .non) : LayK ts k (pushL ws (e :: r)) ∧ ((e :: r).map Prod.fst).Nodup := by
  obtain ⟨hc, nd⟩ := Least.nocut hp (hl.Least hL.len he)
  refine ⟨hL.push nd hp.bd hp.lay hp.push (by rw [he, Int.toNat_natCast]; exact h0) hc, nd⟩
end
/-- from what is closed no row comes -/
theorem Closed.no_row {ts : List (Int × Int)} {ws : List V} {k : Int} {R : List Int} (h : Closed ts ws k R) (hw : ws.length = ts.length) : ∀ {es : List (Int × Int)} {e : Int × Int} {r : List (Int × Int)}, es = e :: r → PRow ts ws k es → e.1 ∈ R → False
  | [], _, _, h0, _, _ => nomatch h0
  | [e], _, _, h0, hp, hR => by
    cases h0
    obtain ⟨_, f0, f1⟩ := hp.bd e (List.mem_singleton.mpr rfl)
    have hl := hp.lay e (List.mem_singleton.mpr rfl)
    obtain ⟨hj, _⟩ := h.ring e.1 hR e.2 f0 f1 (of_decide_eq_false hl)
    have := push_last hp.push (e := e) rfl
    rw [(jn_join hw).mpr hj] at this
    cases this
  | e :: e' :: r, _, _, h0, hp, hR => by
    cases h0
    obtain ⟨_, f0, f1⟩ := hp.bd e List.mem_cons_self
    have hl := hp.lay e List.mem_cons_self
    obtain ⟨_, hr⟩ := h.ring e.1 hR e.2 f0 f1 (of_decide_eq_false hl)
    exact h.no_row hw rfl hp.tail (hr e'.1 (pushB_parts.mp hp.push).2.1)
section
variable {ts : List (Int × Int)} {ws : List V} {k : Int} {tie : Nat} {H H' : Hp} {fl : List (Int × Addr)} {bf : List (Int × Option (Int × Int))} {lv : Nat → Nat} {a : Nat}
end
end FF
namespace FF
open PySem PySem.Spec PyProof.Rows L2
variable [LT]
/-! ### dicts from ints to any values -/
theorem Ties.reverse {H : Hp} {rs : List V} {ts : List (Int × Int)} (h : Ties H rs ts) : Ties H rs.reverse ts.reverse := by
  unfold Ties at h
  induction h with
  | nil => exact .nil
  | cons a _ ih =>
    rw [List.reverse_cons, List.reverse_cons]
    exact Ties.append ih (.cons a .nil)
end FF
namespace FF
open PySem PySem.Spec PyProof.Rows L2
variable [LT]
/-! ### the heap while a free tie is sought -/
section
variable {H : Hp} {n : Int} {ts : List (Int × Int)} {ws : List V} {k : Int} {tie : Nat} {d nb hg wt : Addr} {bl : List (Int × Addr)} {G G' : Hp} {pl pl' : List (Int × V)} {fl fl' : List (Int × Option (Int × Int))} {lv lv' : Nat → Nat} {a a' : Nat} {gl gl' : List (Int × Addr)}
end
end FF
namespace FF
open PySem PySem.Spec PyProof.Rows L2
variable [LT]
/-! ### l.count(k) of ints and Nones -/
end FF
namespace FF
open PySem PySem.Spec PyProof.Rows L2
variable [LT]
/-! ### a ring in a forest is one sequence -/
theorem Way.split {ts : List (Int × Int)} : ∀ {p : List Int} {x z m : Int} {q : List Int}, Way ts x (p ++ m :: q) z → ∃ u v, Way ts x p u ∧ Leads ts m u v ∧ Way ts v q z
  | [], x, z, m, q, h => by
    obtain ⟨y, h1, h2⟩ := Way.inv h
    exact ⟨x, y, .nil x, h1, h2⟩
  | c :: p, x, z, m, q, h => by
    obtain ⟨y, h1, h2⟩ := Way.inv (show Way ts x (c :: (p ++ m :: q)) z from h)
    obtain ⟨u, v, a, b, d⟩ := Way.split h2
    exact ⟨u, v, .cons h1 a, b, d⟩
/-- m comes from a without m' -/
def Ere (ts : List (Int × Int)) (ms : List Int) (a m m' : Int) : Prop := foldR (fun x => x) (pick ts (but m' ms)) a = foldR (fun x => x) (pick ts (but m' ms)) (ts.getD m.toNat (0, 0)).1
theorem leads_end {ts : List (Int × Int)} {m u v : Int} (h : Leads ts m u v) : (ts.getD m.toNat (0, 0)).1 = u ∨ (ts.getD m.toNat (0, 0)).1 = v := by
  rcases h with h | h
  · exact .inl (by rw [h])
  · exact .inr (by rw [h])
section
variable {ts : List (Int × Int)} {ms : List Int} {a b : Int} {l : List Int}
theorem IsRing.ere (h : IsRing ts ms a b l) {p q : List Int} {m m' : Int} (e : l = p ++ m :: q) (hm : m' ∈ q) : Ere ts ms a m m' := by
  have hnd := h.nd
  subst e
  obtain ⟨u, v, w1, w2, _⟩ := Way.split h.way
  rw [List.nodup_append] at hnd
  obtain ⟨n1, n2, n3⟩ := hnd
  have n4 := (List.nodup_cons.mp n2).1
  have inb : ∀ x ∈ p, x ∈ but m' ms := fun x hx => mem_but.mpr ⟨h.mem x (List.mem_append_left _ hx), n3 x hx m' (List.mem_cons_of_mem _ hm)⟩
  have mb : m ∈ but m' ms := mem_but.mpr ⟨h.mem m (List.mem_append_right _ List.mem_cons_self), fun z => n4 (by rw [z]; exact hm)⟩
  have e1 := w1.joined inb
  have e2 := w2.foldR mb
  unfold Ere
  rcases leads_end w2 with z | z <;> rw [z]
  · exact e1
  · exact e1.trans e2
theorem split_at {l : List Int} {i j : Nat} (hi : i < l.length) (hj : j < l.length) (hij : i < j) : l = l.take i ++ l[i] :: l.drop (i + 1) ∧ l[j] ∈ l.drop (i + 1) := by
  refine ⟨?_, ?_⟩
  · rw [← List.drop_eq_getElem_cons hi, List.take_append_drop]
  · rw [List.mem_iff_getElem]
    refine ⟨j - (i + 1), by rw [List.length_drop]; omega, ?_⟩
    rw [List.getElem_drop]
    congr 1
    omega
theorem IsRing.up (h : IsRing ts ms a b l) : l.Pairwise (Ere ts ms a) := by
  rw [List.pairwise_iff_getElem]
  intro i j hi hj hij
  obtain ⟨e, hm⟩ := split_at hi hj hij
  exact h.ere e hm
end
/-! ### the search is one: which ties come, in which order -/
abbrev FlT := List (Int × Option (Int × Int))
open Classical in
noncomputable def ringL (ts : List (Int × Int)) (ws : List V) (s f : Int) : List Int := if h : ∃ l, IsRing ts (numsFrom f 0 ws) (tk ts s).1 (tk ts s).2 l then h.choose else []
noncomputable def grow (ts : List (Int × Int)) (ws : List V) (fl : FlT) (s f : Int) : FlT := fl ++ ((ringL ts ws s f).filter fun x => !decide (x ∈ fl.map Prod.fst)).map fun x => (x, some (s, f))
noncomputable def inF (ts : List (Int × Int)) (ws : List V) (s : Int) (fl : FlT) : Nat → FlT
  | 0 => fl
  | j + 1 => if ws[s.toNat]? = some (.int (j : Int)) then inF ts ws s fl j else grow ts ws (inF ts ws s fl j) s j
noncomputable def outF (ts : List (Int × Int)) (ws : List V) (k : Int) (tie : Nat) : Nat → FlT
  | 0 => [((tie : Int), none)]
  | a + 1 => match (outF ts ws k tie a)[a]? with
    | some p => inF ts ws p.1 (outF ts ws k tie a) k.toNat
    | none => outF ts ws k tie a
/-- the a-th is free in f -/
def Stp_ (ts : List (Int × Int)) (ws : List V) (k : Int) (tie : Nat) (a : Nat) (f : Int) : Prop := ∃ s o, (outF ts ws k tie a)[a]? = some (s, o) ∧ (0 ≤ f ∧ f < k) ∧ ws[s.toNat]? ≠ some (.int f) ∧ joinB ts ws (s, f) = false
/-- what the search has come to: the first that is free -/
structure Fst (ts : List (Int × Int)) (ws : List V) (k : Int) (tie : Nat) (a : Nat) (x f : Int) (fl : FlT) : Prop where
  fl_ : fl = inF ts ws x (outF ts ws k tie a) f.toNat
  key : ∃ o, (outF ts ws k tie a)[a]? = some (x, o)
  stop : Stp_ ts ws k tie a f
  ahead : ∀ a' f', (a' < a ∨ (a' = a ∧ f' < f)) → ¬ Stp_ ts ws k tie a' f'
theorem Fst.same {ts : List (Int × Int)} {ws : List V} {k : Int} {tie a a' : Nat} {x x' f f' : Int} {fl fl' : FlT} (h : Fst ts ws k tie a x f fl) (h' : Fst ts ws k tie a' x' f' fl') : a = a' ∧ x = x' ∧ f = f' ∧ fl = fl' := by
  have ea : a = a' := by
    rcases Nat.lt_trichotomy a a' with c | c | c
    · exact (h'.ahead a f (.inl c) h.stop).elim
    · exact c
    · exact (h.ahead a' f' (.inl c) h'.stop).elim
  subst ea
  have ef : f = f' := by
    by_cases c : f = f'
    · exact c
    · by_cases c2 : f < f'
      · exact (h'.ahead a f (.inr ⟨rfl, c2⟩) h.stop).elim
      · exact (h.ahead a f' (.inr ⟨rfl, by omega⟩) h'.stop).elim
  subst ef
  obtain ⟨o, e⟩ := h.key
  obtain ⟨o', e'⟩ := h'.key
  rw [e] at e'
  have ex : x = x' := by cases e'; rfl
  subst ex
  exact ⟨rfl, rfl, rfl, h.fl_.trans h'.fl_.symm⟩
/-- the pushes that lead to x -/
inductive Pth (fl : FlT) : Int → List (Int × Int) → Prop where
  | root {x : Int} (h : (x, none) ∈ fl) : Pth fl x []
  | step {x s f : Int} {es : List (Int × Int)} (h : (x, some (s, f)) ∈ fl) (p : Pth fl s es) : Pth fl x (es ++ [(s, f)])
theorem fl_one {fl : FlT} (nd : (fl.map Prod.fst).Nodup) {x : Int} {o o' : Option (Int × Int)} (h : (x, o) ∈ fl) (h' : (x, o') ∈ fl) : o = o' := by
  obtain ⟨i, hi⟩ := List.getElem?_of_mem h
  obtain ⟨j, hj⟩ := List.getElem?_of_mem h'
  have ei : (fl.map Prod.fst)[i]? = some x := by rw [List.getElem?_map, hi]; rfl
  have ej : (fl.map Prod.fst)[j]? = some x := by rw [List.getElem?_map, hj]; rfl
  obtain ⟨li, e1⟩ := List.getElem?_eq_some_iff.mp ei
  obtain ⟨lj, e2⟩ := List.getElem?_eq_some_iff.mp ej
  have := (List.getElem_inj nd).mp (e1.trans e2.symm)
  subst this
  rw [hi] at hj
  cases hj
  rfl
theorem Pth.same {fl : FlT} (nd : (fl.map Prod.fst).Nodup) {x : Int} {es es' : List (Int × Int)} (h : Pth fl x es) (h' : Pth fl x es') : es = es' := by
  induction h generalizing es' with
  | root h =>
    cases h' with
    | root _ => rfl
    | step h2 _ => cases fl_one nd h h2
  | step h p ih =>
    cases h' with
    | root h2 => cases fl_one nd h h2
    | step h2 p2 =>
      cases fl_one nd h h2
      rw [ih p2]
theorem Bfs.lv_same {ts : List (Int × Int)} {ws : List V} {k : Int} {tie : Nat} {fl : FlT} {lv lv' : Nat → Nat} {a a' : Nat} (h : Bfs ts ws k tie fl lv a) (h' : Bfs ts ws k tie fl lv' a') : ∀ i, i < fl.length → lv i = lv' i := by
  intro i
  induction i using Nat.strongRecOn with
  | _ i ih =>
    intro hi
    obtain ⟨x, o, hx⟩ : ∃ x o, fl[i]? = some (x, o) := ⟨fl[i].1, fl[i].2, List.getElem?_eq_getElem hi⟩
    cases o with
    | none => rw [h.root i x hx, h.lv0, h'.lv0]
    | some sf =>
      obtain ⟨j, hj, ⟨o1, e1⟩, l1, _⟩ := h.par i x sf.1 sf.2 hx
      obtain ⟨j', hj', ⟨o2, e2⟩, l2, _⟩ := h'.par i x sf.1 sf.2 hx
      have := h.one e1 e2
      subst this
      rw [l1, l2, ih j hj (by omega)]
end FF
namespace FF
open PySem PySem.Spec PyProof.Rows L2
variable [LT]
/-! ### what push_tie tells -/
def Laid_ (ts : List (Int × Int)) (k : Int) (ws : List V) (tie : Nat) (e : Int × Int) (es : List (Int × Int)) (ls : List Int) : Prop :=
  PRow ts ws k (e :: es) ∧ e.1 = (tie : Int) ∧ ls.length = ts.length ∧ (∀ y ∈ ls, 0 ≤ y ∧ y ≤ 121) ∧ LevP ts k ws tie ((e :: es).length : Int) ls ∧
  ∃ (fl : FlT) (lv : Nat → Nat) (a : Nat) (x g : Int) (mid : List (Int × Int)), Fst ts ws k tie a x g fl ∧ Bfs ts ws k tie fl lv a ∧ e :: es = mid ++ [(x, g)] ∧ Pth fl x mid ∧ (∀ (i : Nat) y o, fl[i]? = some (y, o) → hat ls y = lv i) ∧ ∀ y, 0 ≤ y → y < (ts.length : Int) → y ∉ fl.map Prod.fst → hat ls y = ((e :: es).length : Int)
def Full_ (ts : List (Int × Int)) (n k : Int) (ws : List V) (tie : Nat) (ls R : List Int) : Prop := Lot n ls ∧ EndsOf ts R ls ∧ Closed ts ws k R ∧ (tie : Int) ∈ R ∧ ∀ t, t ∈ R ↔ Rch ts ws k (tie : Int) t
def Told (ts : List (Int × Int)) (n k : Int) (ws : List V) (tie : Nat) (H : Hp) (x : Addr) : Prop :=
  (∃ (r c : Addr) (xs : List V) (e : Int × Int) (es : List (Int × Int)) (ls : List Int), H x = some (.tup [.str "laid", .ref r, .ref c]) ∧ H r = some (.tup xs) ∧ Ties H xs (e :: es) ∧ H c = some (.tup (ls.map V.int)) ∧ Laid_ ts k ws tie e es ls) ∨
  ∃ (c : Addr) (ls R : List Int), H x = some (.tup [.str "full", .ref c]) ∧ H c = some (.tup (ls.map V.int)) ∧ Full_ ts n k ws tie ls R
theorem Told.mono {ts : List (Int × Int)} {n k : Int} {ws : List V} {tie : Nat} {H H' : Hp} {x : Addr} (h : Told ts n k ws tie H x) (kk : ∀ q xs, H q = some (.tup xs) → H' q = some (.tup xs)) : Told ts n k ws tie H' x := by
  rcases h with ⟨r, c, xs, e, es, ls, h1, h2, h3, h4, h5⟩ | ⟨c, ls, R, h1, h2, h3⟩
  · exact .inl ⟨r, c, xs, e, es, ls, kk _ _ h1, kk _ _ h2, h3.mono kk, kk _ _ h4, h5⟩
  · exact .inr ⟨c, ls, R, kk _ _ h1, kk _ _ h2, h3⟩
theorem Laid_.same {ts : List (Int × Int)} {k : Int} {ws : List V} {tie : Nat} {e e' : Int × Int} {es es' : List (Int × Int)} {ls ls' : List Int} (h : Laid_ ts k ws tie e es ls) (h' : Laid_ ts k ws tie e' es' ls') : e :: es = e' :: es' ∧ ls = ls' := by
  obtain ⟨_, _, l1, _, _, fl, lv, a, x, g, mid, hF, hB, he, hp, hl, ho⟩ := h
  obtain ⟨_, _, l2, _, _, fl', lv', a', x', g', mid', hF', hB', he', hp', hl', ho'⟩ := h'
  obtain ⟨rfl, rfl, rfl, rfl⟩ := hF.same hF'
  have em := hp.same hB.nd hp'
  have ee : e :: es = e' :: es' := by rw [he, he', em]
  refine ⟨ee, ext_hat (l1.trans l2.symm) fun y y0 y1 => ?_⟩
  by_cases c : y ∈ fl.map Prod.fst
  · obtain ⟨p, hp, rfl⟩ := List.mem_map.mp c
    obtain ⟨i, hi⟩ := List.getElem?_of_mem hp
    rw [hl i p.1 p.2 hi, hl' i p.1 p.2 hi, hB.lv_same hB' i (List.getElem?_eq_some_iff.mp hi).1]
  · rw [ho y y0 (by omega) c, ho' y y0 (by omega) c, ee]
theorem sorted_one : ∀ {as bs : List Int}, as.Pairwise (· < ·) → bs.Pairwise (· < ·) → (∀ x, x ∈ as ↔ x ∈ bs) → as = bs := fun {as bs} ha hb h =>
  List.Perm.eq_of_pairwise (fun a b _ _ h1 h2 => by omega) ha hb ((List.perm_ext_iff_of_nodup (ha.imp fun z => by omega) (hb.imp fun z => by omega)).mpr h)
theorem Full_.same {ts : List (Int × Int)} {n k : Int} {ws : List V} {tie : Nat} {ls ls' R R' : List Int} (h : Full_ ts n k ws tie ls R) (h' : Full_ ts n k ws tie ls' R') : ls = ls' := by
  obtain ⟨h1, h2, _, _, h5⟩ := h
  obtain ⟨g1, g2, _, _, g5⟩ := h'
  refine sorted_one h1.up g1.up fun x => (h2.mem x).trans (Iff.trans ?_ (g2.mem x).symm)
  constructor
  · rintro ⟨t, ht, z⟩
    exact ⟨t, (g5 t).mpr ((h5 t).mp ht), z⟩
  · rintro ⟨t, ht, z⟩
    exact ⟨t, (h5 t).mpr ((g5 t).mp ht), z⟩
theorem Laid_.not_full {ts : List (Int × Int)} {n k : Int} {ws : List V} {tie : Nat} {e : Int × Int} {es : List (Int × Int)} {ls ls' R : List Int} (hw : ws.length = ts.length) (h : Laid_ ts k ws tie e es ls) (h' : Full_ ts n k ws tie ls' R) : False := h'.2.2.1.no_row hw rfl h.1 (by rw [h.2.1]; exact h'.2.2.2.1)
end FF
namespace FF
open PySem PySem.Spec PyProof.Rows L2
variable [LT]
/-! ### the data of what push_tie tells -/
def dE (es : List (Int × Int)) : PyData := .tuple (es.map fun e => .tuple [.int e.1, .int e.2])
theorem dE_sh (es : List (Int × Int)) : Sh 2 (dE es) := Sh.tup fun d hd => by
  obtain ⟨e, _, rfl⟩ := List.mem_map.mp hd
  refine (Sh.tup (k := 0) fun d hd => ?_)
  rcases List.mem_cons.mp hd with rfl | hd
  · exact Sh.int
  · rw [List.mem_singleton.mp hd]
    exact Sh.int
theorem Ties.dpA {K : PySem.W.Frag} {H : Hp} {xs : List V} {es : List (Int × Int)} (h : Ties H xs es) : DpAll K H xs (es.map fun e => .tuple [.int e.1, .int e.2]) := by
  unfold Ties at h
  induction h with
  | nil => exact .nil
  | cons a _ ih =>
    obtain ⟨q, rfl, hq⟩ := a
    exact .cons (.tup (sqT_of hq) (.cons (.int _) (.cons (.int _) .nil))) ih
theorem ints_sh (ls : List Int) : Sh 1 (.tuple (ls.map PyData.int)) := Sh.tup fun d hd => by
  obtain ⟨e, _, rfl⟩ := List.mem_map.mp hd
  exact Sh.int
theorem Sh.str {x : Str} (h : (PyData.str x).canLay0 = true := by decide +kernel) : Sh 0 (.str x) := ⟨h, Nat.le_refl _⟩
theorem Told.data {K : PySem.W.Frag} {ts : List (Int × Int)} {n k : Int} {ws : List V} {tie : Nat} {H : Hp} {x y : Addr} (hw : ws.length = ts.length) (h : Told ts n k ws tie H x) (h' : Told ts n k ws tie H y) : ∃ d, Dp K H (.ref x) d ∧ Dp K H (.ref y) d ∧ SeqAt.shaped d = true := by
  rcases h with ⟨r, c, xs, e, es, ls, h1, h2, h3, h4, h5⟩ | ⟨c, ls, R, h1, h2, h3⟩
  · rcases h' with ⟨r', c', xs', e', es', ls', g1, g2, g3, g4, g5⟩ | ⟨c', ls', R', g1, g2, g3⟩
    · obtain ⟨e1, e2⟩ := h5.same g5
      subst e2
      rw [← e1] at g3
      refine ⟨.tuple [.str "laid", dE (e :: es), .tuple (ls.map PyData.int)], .tup (sqT_of h1) (.cons (.str _) (.cons (.tup (sqT_of h2) h3.dpA) (.cons (.tup (sqT_of h4) (dp_ints ls)) .nil))), .tup (sqT_of g1) (.cons (.str _) (.cons (.tup (sqT_of g2) g3.dpA) (.cons (.tup (sqT_of g4) (dp_ints ls)) .nil))), (Sh.tup (k := 2) fun d hd => ?_).shaped⟩
      rcases List.mem_cons.mp hd with rfl | hd
      · exact Sh.up .str (Nat.zero_le _)
      rcases List.mem_cons.mp hd with rfl | hd
      · exact dE_sh _
      · rw [List.mem_singleton.mp hd]
        exact (ints_sh ls).up (by decide)
    · exact (h5.not_full hw g3).elim
  · rcases h' with ⟨r', c', xs', e', es', ls', g1, g2, g3, g4, g5⟩ | ⟨c', ls', R', g1, g2, g3⟩
    · exact (g5.not_full hw h3).elim
    · have e2 := h3.same g3
      subst e2
      refine ⟨.tuple [.str "full", .tuple (ls.map PyData.int)], .tup (sqT_of h1) (.cons (.str _) (.cons (.tup (sqT_of h2) (dp_ints ls)) .nil)), .tup (sqT_of g1) (.cons (.str _) (.cons (.tup (sqT_of g2) (dp_ints ls)) .nil)), (Sh.tup (k := 2) fun d hd => ?_).shaped⟩
      rcases List.mem_cons.mp hd with rfl | hd
      · exact Sh.up .str (Nat.zero_le _)
      · rw [List.mem_singleton.mp hd]
        exact (ints_sh ls).up (by decide)
end FF
namespace FF
open PySem PySem.Spec PyProof.Rows L2
variable [LT]
/-! ### strips: each tie brings a point that its forest has not touched -/
theorem layerOf_app {ts us : List (Int × Int)} {ws vs : List V} (h : ts.length = ws.length) (f : Int) : layerOf (ts ++ us) (ws ++ vs) f = layerOf ts ws f ++ layerOf us vs f := by
  unfold layerOf
  rw [List.zip_append h, List.filter_append, List.map_append]
theorem LayK.turn {ts : List (Int × Int)} {k : Int} {ws : List V} (h : LayK ts k ws) (r : Nat) : LayK (ts.drop r ++ ts.take r) k (ws.drop r ++ ws.take r) := by
  have hl := h.len
  refine ⟨by rw [List.length_append, List.length_append, List.length_drop, List.length_drop, List.length_take, List.length_take, hl], fun x hx => ?_, fun f => ?_⟩
  · rcases List.mem_append.mp hx with hx | hx
    · exact h.each x (List.mem_of_mem_drop hx)
    · exact h.each x (List.mem_of_mem_take hx)
  · have e : layerOf ts ws f = layerOf (ts.take r) (ws.take r) f ++ layerOf (ts.drop r) (ws.drop r) f := by
      rw [← layerOf_app (by rw [List.length_take, List.length_take, hl]), List.take_append_drop, List.take_append_drop]
    rw [layerOf_app (by rw [List.length_drop, List.length_drop, hl]), ringlessF_perm List.perm_append_comm, ← e]
    exact h.tree f
end FF
namespace FF
open PySem PySem.Spec PyProof.Rows L2
variable [LT]
/-! ### laying tie after tie -/
theorem row_laid {ts : List (Int × Int)} {ws : List V} {k : Int} : ∀ {es : List (Int × Int)} {e : Int × Int} {r : List (Int × Int)}, es = e :: r → PRow ts ws k es → ∀ x ∈ r, ws[x.1.toNat]? ≠ some .non
  | [], _, _, h0, _ => nomatch h0
  | [e], _, _, h0, _ => by
    cases h0
    exact fun _ z => nomatch z
  | e :: e' :: r, _, _, h0, hp => by
    cases h0
    intro x hx
    rcases List.mem_cons.mp hx with rfl | hx
    · have h := (nums_iff.mp (pushB_parts.mp hp.push).2.1.1).2
      rw [h]
      exact fun z => nomatch z
    · exact row_laid rfl hp.tail x hx
theorem pushL_out : ∀ (es : List (Int × Int)) {ws : List V} {i : Nat}, (∀ e ∈ es, e.1.toNat ≠ i) → (pushL ws es)[i]? = ws[i]?
  | [], _, _, _ => rfl
  | e :: es, ws, i, h => by
    show (pushL (ws.set e.1.toNat (.int e.2)) es)[i]? = _
    rw [pushL_out es fun x hx => h x (List.mem_cons_of_mem _ hx), List.getElem?_set_ne (h e List.mem_cons_self)]
theorem pushL_some : ∀ (es : List (Int × Int)) {ws : List V} {i : Nat}, ws[i]? ≠ some .non → (pushL ws es)[i]? ≠ some .non
  | [], _, _, h => h
  | e :: es, ws, i, h => by
    show (pushL (ws.set e.1.toNat (.int e.2)) es)[i]? ≠ _
    refine pushL_some es ?_
    by_cases c : e.1.toNat = i
    · subst c
      rw [List.getElem?_set_self']
      cases ws[e.1.toNat]? with
      | none => exact fun z => nomatch z
      | some _ => exact fun z => nomatch z
    · rw [List.getElem?_set_ne c]
      exact h
theorem pushL_mem : ∀ (es : List (Int × Int)) {ws : List V} {e : Int × Int}, e ∈ es → (pushL ws es)[e.1.toNat]? ≠ some .non
  | d :: es, ws, e, he => by
    show (pushL (ws.set d.1.toNat (.int d.2)) es)[e.1.toNat]? ≠ _
    rcases List.mem_cons.mp he with rfl | he
    · refine pushL_some es ?_
      rw [List.getElem?_set_self']
      cases ws[e.1.toNat]? with
      | none => exact fun z => nomatch z
      | some _ => exact fun z => nomatch z
    · exact pushL_mem es he
theorem Laid_.step {ts : List (Int × Int)} {k : Int} {ws : List V} {tie : Nat} {e : Int × Int} {es : List (Int × Int)} {ls : List Int} (hL : LayK ts k ws) (h0 : ws[tie]? = some .non) (h : Laid_ ts k ws tie e es ls) :
    LayK ts k (pushL ws (e :: es)) ∧ ∀ i : Nat, (pushL ws (e :: es))[i]? = some .non ↔ ws[i]? = some .non ∧ i ≠ tie := by
  obtain ⟨h1, h2, h3, h4, h5, _⟩ := h
  refine ⟨(h1.lays hL h2 h5 h0).1, fun i => ⟨fun z => ⟨?_, fun c => ?_⟩, fun ⟨z, c⟩ => ?_⟩⟩
  · by_cases c : ws[i]? = some .non
    · exact c
    · exact (pushL_some _ c z).elim
  · have := pushL_mem (e :: es) (ws := ws) (e := e) List.mem_cons_self
    rw [show e.1.toNat = i by omega] at this
    exact this z
  · rw [pushL_out, z]
    intro x hx
    rcases List.mem_cons.mp hx with rfl | hx
    · omega
    · intro q
      have := row_laid rfl h1 x hx
      rw [q] at this
      exact this z
end FF
namespace FF
open PySem PySem.Spec PyProof.Rows L2
variable [LT]
/-! ### sorted(set), any number of members -/
section
variable {P : Program} {w : World} {A : Around} {E : Value → Shared → Prop} {s : Shared}
theorem sorted_setB {a : Addr} {S : Int → Bool} {n : Nat} {Q : Value → Shared → Prop} (R : SetR w s.heap a S n) (hh : A.handled = none) (hn0 : n ≤ 1000)
    (hQ : ∀ s' p (c : Nat) (out : Array Value) (ns : List Int), (∀ b o, s.heap.get? b = some o → s'.heap.get? b = some o) → s'.gens = s.gens → s'.os = s.os → s.heap.objs.size ≤ p →
      s'.heap.get? p = some (seqObj "list" out c) → IntsAre out.toList ns → ns.Pairwise (· < ·) → (∀ k, k ∈ ns ↔ S k = true) → ns.length = n → Q (.ref p) s') :
    wpAny (model P w) A (call (.builtin "sorted") [.ref a]) Q E s := by
  obtain ⟨o, es, ep, t, ho, hx, hd, g, nd, hm, hb, hf, hn, hr, hl⟩ := R
  refine Calls.call_function_entry kind_sorted plain_sorted entry_sorted (args_sorted1 _) ?_
  unfold Builtin.«sorted»
  refine wpAny_bind (m := checkCount "sorted" 1 1 _) (wpAny_pure ?_)
  refine wpAny_bind (collect_set (A := A.in1) hh ⟨o, ho, hx.1, hd⟩ hf hb hr hl fun s1 vs kk hz gg oo pm => ?_)
  have vl : vs.length = n := by rw [pm.length_eq, List.length_map, Array.length_toList]; exact hn
  have hI : IntsAre vs (vs.map Builtin.Re.reRawOf) := ints_of vs fun v hv => by
    obtain ⟨e, he, q⟩ := List.mem_map.mp (pm.mem_iff.mp hv)
    obtain ⟨k, tk, e1, _⟩ := g e he
    exact ⟨k, tk, by rw [← q]; exact e1⟩
  have pk : (vs.map Builtin.Re.reRawOf).Perm (es.toList.map keyOf) := by
    have := pm.map Builtin.Re.reRawOf
    rwa [List.map_map] at this
  have big : vs.length ≤ sizeLine := by rw [vl, sizeLine_eq]; omega
  refine wpAny_bind (wpAny_newList ?_ big)
  have at1 : (s1.heap.push (seqObj "list" vs.toArray 0)).get? s1.heap.objs.size = some (seqObj "list" vs.toArray 0) := Heap.get?_push_size _ rfl
  refine wpAny_bind (wpAny_holding (wpAny_call_entry slot_list_sort ⟨_, at1, rfl⟩ entry_list_sort (SrtO.list_sort_ord SrtO.swo_int at1 big (fun h2 => SrtO.ints_sortable hI h2) fun out q1 q2 => ⟨_, rfl, ?_⟩) (args_list_sort _)))
  obtain ⟨k1, k2, k3⟩ := SrtO.ints_out hI q1 q2
  obtain ⟨c, hc⟩ := sortedHeap_at (vs := vs) (out := out.toArray) at1
  have pn : (out.map SrtO.iv).Perm (es.toList.map keyOf) := k2.trans pk
  refine wpAny_pure ⟨_, rfl, hQ _ s1.heap.objs.size c out.toArray _ (fun b u e => ?_) gg oo hz hc k1 (lt_of_le_nodup _ k3 (pn.nodup_iff.mpr nd)) (fun k => by rw [pn.mem_iff, ← hm k]) ?_⟩
  · have q := kk b u e
    have hlt := Heap.lt_size q
    show (sortedHeap (s1.heap.push (seqObj "list" vs.toArray 0)) s1.heap.objs.size vs out.toArray).get? b = some u
    rw [sortedHeap_old (Nat.ne_of_lt hlt) (by rw [size_push']; exact Nat.lt_succ_of_lt hlt)]
    exact Heap.get?_push_of_some _ q
  · rw [pn.length_eq, List.length_map, Array.length_toList]; exact hn
end
def rSortedSetB (w : World) : List V → Hp → VK → Prop := fun vs H Q => ∃ (a : Addr) (S : Int → Bool) (n : Nat), vs = [V.ref a] ∧ H a = some (SetO w a S n) ∧ n ≤ 1000 ∧
  ∀ (ns : List Int) (p : Addr), ns.Pairwise (· < ·) → (∀ k : Int, k ∈ ns ↔ S k = true) → ns.length = n → H p = none → Q (.ref p) (upd H p (.lst (ns.map V.int)))
section
variable {X : Cx}
theorem cr_sortedSetB (hc : X.calm = true) : CallR X (.builtin "sorted") (rSortedSetB X.w) := by
  intro pins s σ H vs us Q I r h
  obtain ⟨a, S, n, rfl, ha, hn0, q⟩ := h
  rw [Vals.ref1 r]
  refine sorted_setB (setO_get I ha) (I.ok.hd hc) hn0 fun s' p c out ns k g o hp hg hi hs hm hl => ?_
  have hlen : (ns.map V.int).length ≤ sizeLine := by rw [List.length_map, hl, sizeLine_eq]; omega
  have hn : H p = none := I.hok.fresh hp
  have J : Inv X pins σ (upd H p (.lst (ns.map V.int))) { s with heap := s'.heap, gens := s'.gens, drawn := s'.drawn, toks := s'.toks } :=
    I.call (ch := []) (Un.laid k hp hn) (I.hok.laid k hp ⟨hlen, out.toList, c, vals_of_ints hi, hg⟩) (by rw [g]; exact I.bare) (fun _ z => nomatch z)
  have e : { s with heap := s'.heap, gens := s'.gens, drawn := s'.drawn, toks := s'.toks } = s' := by
    cases s'
    cases s
    cases o
    rfl
  rw [← e]
  exact ⟨.ref p, _, J, rfl, q ns p hs hm hl hn⟩
end
end FF
namespace FF
open PySem PySem.Spec PyProof.Rows L2
variable [LT]
/-! ### every second one of a list -/
section
variable {X : Cx}
end
end FF
namespace FF
open PySem PySem.Spec PyProof.Rows L2
variable [LT]
/-! ### numbers in the order of their first places -/
/-! ### the parting around lots -/
/-! ### tight lots -/
structure TightL (ts : List (Int × Int)) (n k : Int) (ws : List V) (ls : List Int) : Prop where
  lot : Lot n ls
  tight : ∀ f, 0 ≤ f → f < k → inside ls (layerOf ts ws f) + 1 = ls.length
theorem nub_all {l : List Int} (h : (nub l).length = 1) {a b : Int} (ha : a ∈ l) (hb : b ∈ l) : a = b := by
  have ha := (mem_nub l a).mpr ha
  have hb := (mem_nub l b).mpr hb
  match nub l, h, ha, hb with
  | [c], _, ha, hb => rw [List.mem_singleton.mp ha, List.mem_singleton.mp hb]
theorem tight_joined {n : Int} {ls : List Int} {L : List (Int × Int)} (h : ringlessF (fun x => x) L = true) (hl : Lot n ls) (ht : inside ls L + 1 = ls.length) {x y : Int} (hx : x ∈ ls) (hy : y ∈ ls) :
    foldR (fun x => x) (L.filter fun t => decide (t.1 ∈ ls) && decide (t.2 ∈ ls)) x = foldR (fun x => x) (L.filter fun t => decide (t.1 ∈ ls) && decide (t.2 ∈ ls)) y := by
  have c := lot_count (ls := ls) (ringlessF_filter (fun t => decide (t.1 ∈ ls) && decide (t.2 ∈ ls)) h) fun t ht => by
    have := (List.mem_filter.mp ht).2
    rw [Bool.and_eq_true, decide_eq_true_eq, decide_eq_true_eq] at this
    exact this
  rw [List.map_id', nub_of_nd hl.nd] at c
  have ht : (L.filter fun t => decide (t.1 ∈ ls) && decide (t.2 ∈ ls)).length + 1 = ls.length := ht
  exact nub_all (by omega) (List.mem_map.mpr ⟨x, hx, rfl⟩) (List.mem_map.mpr ⟨y, hy, rfl⟩)
/-! ### a lot stays tight -/
theorem laidT_sub : ∀ {ts : List (Int × Int)} {ws ws' : List V}, ws'.length = ws.length → (∀ i : Nat, ws'[i]? = some .non → ws[i]? = some .non) → (laidT ts ws).Sublist (laidT ts ws')
  | [], _, _, _, _ => by
    unfold laidT
    rw [List.zip_nil_left]
    exact List.nil_sublist _
  | t :: ts, [], _, _, _ => by
    unfold laidT
    rw [List.zip_nil_right]
    exact List.nil_sublist _
  | t :: ts, x :: ws, [], hl, _ => by cases hl
  | t :: ts, x :: ws, y :: ws', hl, h => by
    rw [laidT_cons, laidT_cons]
    refine List.Sublist.append ?_ (laidT_sub (Nat.succ.inj hl) fun i => h (i + 1))
    by_cases e : y = V.non
    · have h0 := h 0
      have : x = V.non := Option.some.inj (h0 (by rw [e]; rfl))
      rw [if_pos this]
      exact List.nil_sublist _
    · rw [if_neg e]
      split
      · exact List.nil_sublist _
      · exact .refl _
theorem TightL.stay {ts : List (Int × Int)} {n k : Int} {ws ws' : List V} {ls : List Int} (h : TightL ts n k ws ls) (hk : 0 ≤ k) (hL : LayK ts k ws) (hL' : LayK ts k ws') (hs : ∀ i : Nat, ws'[i]? = some .non → ws[i]? = some .non) : TightL ts n k ws' ls := by
  refine ⟨h.lot, fun f f0 f1 => ?_⟩
  have h1 := (tight_iff hL hk h.lot.nd h.lot.ne).mpr fun f f0 f1 => by have := h.tight f f0 f1; omega
  have hsub : inside ls (laidT ts ws) ≤ inside ls (laidT ts ws') := ((laidT_sub (hL'.len.trans hL.len.symm) hs).filter _).length_le
  have hmost := (sum_most (s := (ls.length : Int) - 1) (g := fun f => (inside ls (layerOf ts ws' f) : Int)) (l := upTo k) fun f _ => by
    have := inside_forest (hL'.tree f) h.lot.nd h.lot.ne
    show (inside ls (layerOf ts ws' f) : Int) ≤ _
    omega).1
  rw [← inside_laid ls hL'.len hL'.each, upTo_length, show ((k.toNat : Nat) : Int) = k by omega] at hmost
  have := (tight_iff hL' hk h.lot.nd h.lot.ne).mp (by omega) f f0 f1
  omega
theorem Full_.tight {ts : List (Int × Int)} {n k : Int} {ws : List V} {tie : Nat} {ls R : List Int} (hL : LayK ts k ws) (h : Full_ ts n k ws tie ls R) : TightL ts n k ws ls ∧ (tk ts (tie : Int)).1 ∈ ls ∧ (tk ts (tie : Int)).2 ∈ ls := by
  obtain ⟨h1, h2, h3, h4, _⟩ := h
  refine ⟨⟨h1, fun f f0 f1 => h3.tree hL.len h2 (fun z => by rw [z] at h4; cases h4) hL.tree f0 f1⟩, (h2.mem _).mpr ⟨_, h4, .inl rfl⟩, (h2.mem _).mpr ⟨_, h4, .inr rfl⟩⟩
end FF
namespace FF
open PySem PySem.Spec PyProof.Rows L2
variable [LT]
/-! ### len of a dict, and layings that grow with lots noted -/
end FF
namespace FF
open PySem PySem.Spec PyProof.Rows L2
variable [LT]
/-! ### no laying lays more than the bound of a parting -/
end FF
namespace FF
open PySem PySem.Spec PyProof.Rows L2
variable [LT]
/-! ### min of a list -/
theorem minK {X : Cx} {K : PySem.W.Frag} (hc : X.calm = true) (h : X.K = K := by rfl) : CallR X (.builtin "min") (rMin K) := h ▸ cr_min hc
/-! ### all partings -/
end FF
namespace FF
open PySem PySem.Spec PyProof.Rows L2
variable [LT]
/-! ### as few forests as do -/
end FF
namespace FF
open PySem PySem.Spec PyProof.Rows L2
variable [LT]
/-! ### an empty tuple times an int -/
section
variable {X : Cx}
end
/-! ### whether no lot is full, by all lots -/
def canF (n : Nat) (ts : List (Int × Int)) (k : Int) : Bool := ((lotsF n).filter fun l => !l.isEmpty).all fun l => decide ((inside l ts : Int) ≤ k * ((l.length : Int) - 1))
theorem canF_iff {n : Nat} {ts : List (Int × Int)} {k : Int} : canF n ts k = true ↔ ∀ ls, Lot (n : Int) ls → (inside ls ts : Int) ≤ k * ((ls.length : Int) - 1) := by
  unfold canF
  rw [List.all_eq_true]
  constructor
  · intro h ls hL
    refine of_decide_eq_true (h ls (List.mem_filter.mpr ⟨lotsF_all n hL.up hL.ok, ?_⟩))
    cases ls with
    | nil => exact absurd rfl hL.ne
    | cons _ _ => rfl
  · intro h l hl
    obtain ⟨h1, h2⟩ := List.mem_filter.mp hl
    obtain ⟨o1, o2, _⟩ := lotsF_ok n l h1
    exact decide_eq_true (h l ⟨fun z => (by rw [z] at h2; cases h2), o1, o2⟩)
end FF
namespace FF
open PySem PySem.Spec PyProof.Rows L2
variable [LT]
/-! ### webs of which the fewest forests are known -/
end FF
namespace FF
open PySem PySem.Spec PyProof.Rows L2
variable [LT]
/-! ### [.. for .. in .. for .. in ..] -/
section
variable {X : Cx}
end
end FF
namespace FF
open PySem PySem.Spec PyProof.Rows L2
variable [LT]
/-! ### xs.remove(y): data of any depth -/
section
variable {X : Cx}
open PyProof
end
/-! ### ties at a point -/
end FF
namespace FF
open PySem PySem.Spec PyProof.Rows L2
variable [LT]
/-! ### defs that raise; try .. except; isinstance of what was caught -/
theorem DefAt.okE {P : Program} {w : World} {K : PySem.W.Frag} {mg : Str → Option Value} {base : Heap} {x : Str} {st : Stmt} {f : Addr} {fd : FuncData} {N ps : List Str} {k : Nat} {sp : Sp} (D : DefAt K mg x st ps f fd) (S : FnScope N ps (defScope st)) (len : ∀ vs H Q E, sp vs H Q E → vs.length = ps.length)
    (hbody : ∀ (A : Around) (outer : List Env) (s : Shared) (H : Hp) (vs : List V) (Q : VK) (E : XK), Room k (A.deeper (envOfC x (defScope st) s.heap.objs.size f fd.code)) → sp vs H Q E →
      ∃ t, PSs (cxOf (L2.CX P w) P w K mg base N x (defScope st) f fd.code A outer s H E) (defBody st) t ∧ t { nx := fun _ H' => Q .non H', rt := Q } (start N vs) H) : FnOk P w K mg base (L2.CX P w) (k + 1) f fd ps sp := by
  obtain ⟨oc, od, dV, kV, doc, pm, an, cdv, ct, osl, rfl, lk, hcd, _, _⟩ := D.F.ex
  exact fn_of lk hcd S len hbody
/-! #### what is told of the classes -/
inductive Xf where
  | glo (x : Str) | exc (x : Str) | ec (x : Str) | exm (x y : Str) (b : Bool) | kit (x y : Str) (b : Bool) | kitT (x : Str) (t : String) (b : Bool)
  deriving DecidableEq
def ecB (K : PySem.W.Frag) (D : Addr) : Bool :=
  He.eqO (PySem.W.findIn K (.ref D) "__getattribute__") (some (some (.builtin "BaseException.__getattribute__"))) && (He.eqO (PySem.W.findIn K (.ref D) "__getattr__") (some none) &&
  (decide (PySem.W.subIn K (.ref D) (.type "BaseException") = some true) && (PySem.W.hasDictIn K D && (He.eqO (PySem.W.findIn K (.ref D) "__class__") (some (some (.builtin "object.__class__"))) &&
  (He.eqO (PySem.W.specialIn K (.builtin "object.__class__") "__get__") (some (some (.builtin "getset_descriptor.__get__"))) && (decide (PySem.W.takesIn K (.builtin "object.__class__") = some true) && decide (PySem.W.mroIn K D (.type "object") = some true)))))))
def Xf.ok (K : PySem.W.Frag) : Xf → Bool
  | .glo x => (He.Fa.glo x).ok K
  | .exc x => (He.Fa.exc x).ok K
  | .ec x => ecB K (He.ga K x)
  | .exm x y b => (He.Fa.exm x y b).ok K
  | .kit x y b => decide (PySem.W.kitOne K (.ref (He.ga K x)) (.ref (He.ga K y)) = some b)
  | .kitT x t b => decide (PySem.W.kitOne K (.ref (He.ga K x)) (.type t) = some b)
theorem ec_ok {K : PySem.W.Frag} {x : Str} (c : (Xf.ec x).ok K = true) : ExcC K (He.ga K x) := by
  obtain ⟨c1, c⟩ := He.ba c
  obtain ⟨c2, c⟩ := He.ba c
  obtain ⟨c3, c⟩ := He.ba c
  obtain ⟨c4, c⟩ := He.ba c
  obtain ⟨c5, c⟩ := He.ba c
  obtain ⟨c6, c⟩ := He.ba c
  obtain ⟨c7, c8⟩ := He.ba c
  exact ⟨He.eqO_ok c1, He.eqO_ok c2, of_decide_eq_true c3, c4, He.eqO_ok c5, He.eqO_ok c6, of_decide_eq_true c7, of_decide_eq_true c8⟩
/-- the classes' facts -/
structure Xcs (xfs : List Xf) (K : PySem.W.Frag) (mg : Str → Option Value) : Prop where
  ok : ∀ f ∈ xfs, f.ok K = true
  g : ∀ x, Xf.glo x ∈ xfs → mg x = some (.ref (He.ga K x))
section
variable {xfs : List Xf} {K : PySem.W.Frag} {mg : Str → Option Value} (c : Xcs xfs K mg)
include c
theorem Xcs.exm {x y : Str} {b : Bool} (h : Xf.exm x y b ∈ xfs) : PySem.W.exmOne K (.ref (He.ga K x)) (.ref (He.ga K y)) = some b := He.exm_ok (c.ok _ h)
theorem Xcs.kit {x y : Str} {b : Bool} (h : Xf.kit x y b ∈ xfs) : PySem.W.kitOne K (.ref (He.ga K x)) (.ref (He.ga K y)) = some b := of_decide_eq_true (c.ok _ h)
theorem Xcs.kitT {x : Str} {t : String} {b : Bool} (h : Xf.kitT x t b ∈ xfs) : PySem.W.kitOne K (.ref (He.ga K x)) (.type t) = some b := of_decide_eq_true (c.ok _ h)
theorem Xcs.ec {x : Str} (h : Xf.ec x ∈ xfs) : ExcC K (He.ga K x) := ec_ok (c.ok _ h)
end
/-! #### what was caught, frozen -/
section
variable {X : Cx}
end
/-! #### try: .. except x as n: suite; what was caught stays, frozen -/
section
variable {X : Cx} {x n : Str} {c : Value} {i : Nat} {body suite : List Stmt} {b0 : Stmt} {np pos pos' : Pos} {tb : WX → TS} {ts : Addr → Value → Option Addr → TS} {Wo : WX}
end
end FF
namespace FF
open PySem PySem.Spec PyProof.Rows L2
variable [LT]
/-! ### drawn partings -/
end FF
namespace FF
open PySem PySem.Spec PyProof.Rows L2
variable [LT]
/-! ### webs drawn together -/
theorem rise_nd {ls : List Int} (h : ls.Pairwise (· < ·)) : ls.Nodup := h.imp fun z => by omega
/-! ### lots that are walked; the data of webs -/
theorem Lot.le {n : Int} {ls : List Int} (h : Lot n ls) : (ls.length : Int) ≤ n := by
  obtain ⟨x, hx⟩ := List.exists_mem_of_ne_nil _ h.ne
  have := h.ok x hx
  have := nd_le (rise_nd h.up) (m := upTo n) fun y hy => upTo_mem.mpr (h.ok y hy)
  rw [upTo_length] at this
  omega
theorem Lot.tie {n a b : Int} (h0 : 0 ≤ a) (h1 : a < b) (h2 : b < n) : Lot n [a, b] := ⟨List.cons_ne_nil _ _, .cons (fun y hy => by rw [List.mem_singleton.mp hy]; exact h1) (List.pairwise_singleton _ _), fun x hx => by
  rcases List.mem_cons.mp hx with rfl | hx
  · exact ⟨h0, by omega⟩
  · rw [List.mem_singleton.mp hx]
    exact ⟨by omega, h2⟩⟩
def dWeb (n : Int) (ts : List (Int × Int)) : PyData := .tuple [.int n, dE ts]
theorem Web.dp {K : PySem.W.Frag} {H : Hp} {v : V} {n : Int} {ts : List (Int × Int)} (W : Web H v n ts) : Dp K H v (dWeb n ts) := by
  obtain ⟨t, u, rs, rfl, h1, h2, h3⟩ := W
  exact .tup (sqT_of h1) (.cons (.int _) (.cons (.tup (sqT_of h2) h3.dpA) .nil))
theorem Lot.head {n : Int} {ls : List Int} (h : Lot n ls) : ls.headD 0 ∈ ls := by
  cases e : ls with
  | nil => exact absurd e h.ne
  | cons x r => exact List.mem_cons_self
end FF
namespace FF
open PySem PySem.Spec PyProof.Rows L2
variable [LT]
/-! ### sorted(tuple of ints) -/
section
variable {prog : Program} {w : World} {A : Around} {E : Value → Shared → Prop} {s : Shared}
end
end FF
namespace FF
open PySem PySem.Spec PyProof.Rows L2
variable [LT]
/-! ### glued layings -/
end FF
namespace FF
open PySem PySem.Spec PyProof.Rows L2
variable [LT]
/-! ### lots of the inner web, in the web -/
end FF
namespace FF
open PySem PySem.Spec PyProof.Rows L2
variable [LT]
/-! ### things that are looked at as webs -/
def tieO (n : Int) : Option (List V) → Bool
  | some [x, .int j] => isNum (.int j) 0 (n - 1) && isNum x 0 (j - 1)
  | _ => false
inductive WT (H : Hp) : V → Bool → Prop
  | no {v : V} {nm : String} (h : TyN H v nm) (hn : nm ≠ "tuple") : WT H v false
  | len {a : Addr} {xs : List V} (h : H a = some (.tup xs)) (hl : xs.length ≠ 2) : WT H (.ref a) false
  | pts {a : Addr} {x y : V} {nm : String} (h : H a = some (.tup [x, y])) (hx : TyN H x nm) (hb : isNum x 1 40 = false) : WT H (.ref a) false
  | tys {a : Addr} {n : Int} {y : V} {nm : String} (h : H a = some (.tup [.int n, y])) (h0 : 1 ≤ n) (h1 : n ≤ 40) (hy : TyN H y nm) (hn : nm ≠ "tuple") : WT H (.ref a) false
  | many {a u : Addr} {n : Int} {rs : List V} (h : H a = some (.tup [.int n, .ref u])) (h0 : 1 ≤ n) (h1 : n ≤ 40) (hu : H u = some (.tup rs)) (hl : 120 < rs.length) : WT H (.ref a) false
  | ties {a u : Addr} {n : Int} {rs : List V} {os : List (Option (List V))} (h : H a = some (.tup [.int n, .ref u])) (h0 : 1 ≤ n) (h1 : n ≤ 40) (hu : H u = some (.tup rs)) (hl : rs.length ≤ 120) (hr : Paired (Tpl H) rs os) : WT H (.ref a) (os.all (tieO n))
theorem Ties.tpl {H : Hp} : ∀ {rs : List V} {ts : List (Int × Int)}, Ties H rs ts → Paired (Tpl H) rs (ts.map fun t => some [V.int t.1, .int t.2])
  | _, _, .nil => .nil
  | _, _, .cons ⟨q, e, h⟩ t => by
    subst e
    exact .cons (.yes h fun x hx => by
      rcases List.mem_cons.mp hx with rfl | hx
      · exact ⟨_, .int _⟩
      · rw [List.mem_singleton.mp hx]
        exact ⟨_, .int _⟩) (Ties.tpl t)
theorem tieO_ok {n : Int} {t : Int × Int} : tieO n (some [V.int t.1, .int t.2]) = true ↔ 0 ≤ t.1 ∧ t.1 < t.2 ∧ t.2 < n := by
  show (((decide (0 ≤ t.2) && decide (t.2 ≤ n - 1)) && (decide (0 ≤ t.1) && decide (t.1 ≤ t.2 - 1))) = true) ↔ _
  rw [Bool.and_eq_true, Bool.and_eq_true, Bool.and_eq_true, decide_eq_true_eq, decide_eq_true_eq, decide_eq_true_eq, decide_eq_true_eq]
  omega
theorem Web.wt {H : Hp} {v : V} {n : Int} {ts : List (Int × Int)} (W : Web H v n ts) (ok : TOk n ts) (h0 : 1 ≤ n) (h1 : n ≤ 40) (hl : ts.length ≤ 120) : WT H v true := by
  obtain ⟨t, u, rs, rfl, h2, h3, h4⟩ := W
  have e : ((ts.map fun t => some [V.int t.1, .int t.2]).all (tieO n)) = true := List.all_eq_true.mpr fun o ho => by
    obtain ⟨t, ht, rfl⟩ := List.mem_map.mp ho
    exact tieO_ok.mpr (ok t ht)
  rw [← e]
  exact .ties h2 h0 h1 h3 (by rw [h4.length]; exact hl) h4.tpl
theorem WT.ke {H H' : Hp} {v : V} {b : Bool} (h : WT H v b) (k : Ke H H') : WT H' v b := by
  cases h with
  | no h hn => exact .no (h.ke k) hn
  | len h hl => exact .len (k.tup h) hl
  | pts h hx hb => exact .pts (k.tup h) (hx.ke k) hb
  | tys h h0 h1 hy hn => exact .tys (k.tup h) h0 h1 (hy.ke k) hn
  | many h h0 h1 hu hl => exact .many (k.tup h) h0 h1 (k.tup hu) hl
  | ties h h0 h1 hu hl hr => exact .ties (k.tup h) h0 h1 (k.tup hu) hl (Paired.mapP hr fun _ _ z => z.ke k)
end FF
namespace FF
open PySem PySem.Spec PyProof.Rows L2
variable [LT]
/-! ### rows of things that are not ties, and of things that are no webs -/
theorem WT.mono {H H' : Hp} {v : V} {b : Bool} (h : WT H v b) (k : ∀ q xs, H q = some (.tup xs) → H' q = some (.tup xs)) (y : ∀ v n, TyN H v n → TyN H' v n) : WT H' v b := by
  cases h with
  | no h hn => exact .no (y _ _ h) hn
  | len h hl => exact .len (k _ _ h) hl
  | pts h hx hb => exact .pts (k _ _ h) (y _ _ hx) hb
  | tys h h0 h1 hy hn => exact .tys (k _ _ h) h0 h1 (y _ _ hy) hn
  | many h h0 h1 hu hl => exact .many (k _ _ h) h0 h1 (k _ _ hu) hl
  | ties h h0 h1 hu hl hr => exact .ties (k _ _ h) h0 h1 (k _ _ hu) hl (Paired.mapP hr fun _ _ z => z.mono k y)
/-- points that are none, with any ties -/
structure PTs (H : Hp) (xs : List V) : Prop where
  all : ∀ x ∈ xs, ∃ nm, TyN H x nm ∧ isNum x 1 40 = false
theorem PTs.nil {H : Hp} : PTs H [] := ⟨fun _ z => nomatch z⟩
theorem PTs.cons {H : Hp} {x : V} {nm : String} {xs : List V} (h : TyN H x nm) (e : isNum x 1 40 = false) (t : PTs H xs) : PTs H (x :: xs) := ⟨fun y hy => by
  rcases List.mem_cons.mp hy with rfl | hy
  · exact ⟨nm, h, e⟩
  · exact t.all y hy⟩
theorem PTs.ke {H H' : Hp} {xs : List V} (h : PTs H xs) (k : Ke H H') : PTs H' xs := ⟨fun x hx => by
  obtain ⟨o, t, e⟩ := h.all x hx
  exact ⟨o, t.ke k, e⟩⟩
theorem PTs.sub {H : Hp} {xs ys : List V} (h : PTs H xs) (k : ∀ y ∈ ys, y ∈ xs) : PTs H ys := ⟨fun y hy => h.all y (k y hy)⟩
theorem PTs.new {H : Hp} {p : Addr} {o : HO} {xs : List V} (h : PTs H xs) (k : H p = none) : PTs (upd H p o) xs := h.ke (Ke.new k)
theorem PTs.wt {H H' : Hp} {xs : List V} {x y : V} {p : Addr} (h : PTs H xs) (hx : x ∈ xs) (k : Ke H H') (hp : H' p = some (.tup [x, y])) : WT H' (.ref p) false := by
  obtain ⟨nm, t, e⟩ := h.all x hx
  exact .pts hp (t.ke k) e
end FF
namespace FF
open PySem PySem.Spec PyProof.Rows L2
variable [LT]
/-! ### l != [] by lengths alone -/
def rNeL0 (K : PySem.W.Frag) : R2 := fun x y H Q => ∃ a b xs, x = .ref a ∧ y = .ref b ∧ SqL K H a xs ∧ SqL K H b [] ∧ Q (.bl (!xs.isEmpty)) H
section
variable {X : Cx}
theorem op_neL0 {K : PySem.W.Frag} (hu : X.A.units + 64 < cLine) (hk : X.K = K := by rfl) : OpR X (compareOp .NotEq) (rNeL0 K) := by
  subst hk
  intro pins s σ H x y v u Q I rx ry h
  obtain ⟨a, b, xs, rfl, rfl, ha, hb, q⟩ := h
  cases (show v = Value.ref a from rx)
  cases (show u = Value.ref b from ry)
  obtain ⟨us, r1, p1, _⟩ := I.list ha
  obtain ⟨ws, r2, p2, _⟩ := I.list hb
  cases r2
  have hu' : X.A.units < cLine := by omega
  cases r1 with
  | nil =>
    refine (SeqAt.RcNeAt.lists (e := fun _ => true) p1.isList p2.isList rfl hu' (fun j h1 h2 => absurd h1 (Nat.not_lt_zero j))) _ _ _ _ ?_
    exact ⟨.bl _, H, I, rfl, q⟩
  | cons h t =>
    refine (SeqAt.RcNeAt.lists_lengths p1.isList p2.isList (by simp) hu') _ _ _ _ ?_
    exact ⟨.bl _, H, I, rfl, q⟩
end
/-! ### str(x) of an int or None -/
section
variable {X : Cx}
end
end FF
namespace FF
open PySem PySem.Spec PyProof.Rows L2
variable [LT]
/-! ### how many ties lie between the parts: paths, rounds, full webs -/
/-! ### the most trees of webs that are known -/
end FF
namespace FF
open PySem PySem.Spec PyProof.Rows L2
variable [LT]
/-! ### a class by its name, within a suite too -/
end FF
namespace FF
open PySem PySem.Spec PyProof.Rows L2
variable [LT]
/-! ### tuples that are known to the object: displays and + -/
def tTupF (t : TA) : TE := fun σ H Q => t σ H fun xs H1 => xs.length ≤ sizeLine ∧ ∀ p H2, H1 p = none → Ke H1 H2 → TF H2 p xs → Q (.ref p) H2
theorem pe_tupF {X : Cx} {es : List Expr} {t : TA} {pos : Pos} {x1} (h : PA X es t) : PE X (.Tuple es x1 pos) (tTupF t) := by
  refine ⟨fun pins s σ H Q I hq => ?_⟩
  refine wpAny_Tuple_spliced (thn (h.run pos pins s σ H _ I hq) fun us s1 ⟨xs, H1, I1, r, z, q⟩ => ⟨by rw [← r.length]; exact z, ?_⟩)
  have hf : H1 s1.heap.objs.size = none := I1.hok.fresh (Nat.le_refl _)
  refine ⟨.ref s1.heap.objs.size, upd H1 s1.heap.objs.size (.frz { cls := .type "tuple", data := .seq us.toArray } (.tup xs)), I1.laid (t' := s1.toks) (fun b u e => Heap.get?_push_of_some _ e) (Nat.le_refl _) ?_, rfl, q _ _ hf (Ke.new hf) ⟨_, upd_same, rfl⟩⟩
  exact ⟨Heap.get?_push_size _ rfl, z, us, r, IsTup.new _ _⟩
def rCatF (_ : PySem.W.Frag) : R2 := fun x y H Q => ∃ a b xs ys, x = .ref a ∧ y = .ref b ∧ TF H a xs ∧ TF H b ys ∧ xs.length + ys.length ≤ sizeLine ∧ ∀ p H', Ke H H' → TF H' p (xs ++ ys) → Q (.ref p) H'
theorem catF {X : Cx} {K : PySem.W.Frag} (h : X.K = K := by rfl) : OpR X (binaryOp .Add) (rCatF K) := by
  subst h
  intro pins s σ H x y v u Q I rx ry hq
  obtain ⟨a, b, xs, ys, rfl, rfl, ha, hb, hz, q⟩ := hq
  cases rx
  cases ry
  obtain ⟨its, r1, p1, _⟩ := I.tuple (ha.sq (K := X.K))
  obtain ⟨its2, r2, p2, _⟩ := I.tuple (hb.sq (K := X.K))
  by_cases hx : xs = []
  · subst hx
    cases r1
    exact cat_tup0 p1 p2 ⟨.ref b, H, I, rfl, q b H .refl hb⟩
  · refine HT.cat_tup p1 p2 (fun z => hx (r1.nil_iff.mp z)) (fun z => ⟨.ref a, H, I, rfl, q a H .refl (by rw [r2.nil_iff.mp z, List.append_nil]; exact ha)⟩) (fun z => ?_) (by rw [← r1.length, ← r2.length]; exact hz)
    have hf : H s.heap.objs.size = none := I.hok.fresh (Nat.le_refl _)
    refine ⟨.ref s.heap.objs.size, upd H s.heap.objs.size (.frz { cls := .type "tuple", data := .seq (its ++ its2).toArray } (.tup (xs ++ ys))), I.laid (t' := s.toks) (fun b ob q => Heap.get?_push_of_some _ q) (Nat.le_refl _) ?_, rfl, q _ _ (Ke.new hf) ⟨_, upd_same, rfl⟩⟩
    exact ⟨Heap.get?_push_size _ rfl, by rw [List.length_append]; exact hz, _, r1.append r2, IsTup.new _ _⟩
/-- kinds of things, tuples known to the object among them -/
inductive TyF (H : Hp) : V → String → Prop where
  | non : TyF H .non "NoneType"
  | bl (b : Bool) : TyF H (.bl b) "bool"
  | int (i : Int) : TyF H (.int i) "int"
  | str (x : Str) : TyF H (.str x) "str"
  | lst {a : Addr} {xs : List V} (h : H a = some (.lst xs)) : TyF H (.ref a) "list"
  | tup {a : Addr} {xs : List V} (h : H a = some (.tup xs)) : TyF H (.ref a) "tuple"
  | dic {a : Addr} {kvs : List (Key × V)} (h : H a = some (.dK kvs)) : TyF H (.ref a) "dict"
  | tf {a : Addr} {xs : List V} (h : TF H a xs) : TyF H (.ref a) "tuple"
theorem TyN.f {H : Hp} {v : V} {n : String} (h : TyN H v n) : TyF H v n := by
  cases h with
  | non => exact .non
  | bl b => exact .bl b
  | int i => exact .int i
  | str x => exact .str x
  | lst h => exact .lst h
  | tup h => exact .tup h
  | dic h => exact .dic h
theorem TyF.split {H : Hp} {v : V} {n : String} (h : TyF H v n) : TyN H v n ∨ (n = "tuple" ∧ ∃ a xs, v = .ref a ∧ TF H a xs) := by
  cases h with
  | non => exact .inl .non
  | bl b => exact .inl (.bl b)
  | int i => exact .inl (.int i)
  | str x => exact .inl (.str x)
  | lst h => exact .inl (.lst h)
  | tup h => exact .inl (.tup h)
  | dic h => exact .inl (.dic h)
  | tf h => exact .inr ⟨rfl, _, _, rfl, h⟩
theorem TyF.x {K : PySem.W.Frag} {H : Hp} {v : V} {n : String} (h : TyF H v n) : TyX K H v (.type n) := by
  rcases h.split with h | ⟨rfl, a, xs, rfl, o, ht, _⟩
  · exact h.x
  · exact .fTuple ht
theorem TyF.isi {K : PySem.W.Frag} {H : Hp} {v : V} {n : String} (h : TyF H v n) {c : String} (hc : c = "int" ∨ c = "bool" ∨ c = "tuple" ∨ c = "list") : PySem.W.kitOne K (.type n) (.type c) = some (isiB n c) := by
  rcases hc with rfl | rfl | rfl | rfl <;> cases h <;> exact kit_ty (by decide +kernel)
theorem TyF.ke {H H' : Hp} {v : V} {n : String} (h : TyF H v n) (k : Ke H H') : TyF H' v n := by
  rcases h.split with h | ⟨rfl, a, xs, rfl, ht⟩
  · exact (h.ke k).f
  · exact .tf (ht.ke k)
theorem TyF.put {H : Hp} {p : Addr} {xs ys : List V} {v : V} {n : String} (h : TyF H v n) (k : H p = some (.lst xs)) : TyF (upd H p (.lst ys)) v n := by
  rcases h.split with h | ⟨rfl, a, zs, rfl, ht⟩
  · exact (h.put k).f
  · exact .tf (ht.put k)
theorem TyF.dk {H H' : Hp} {p : Addr} {v : V} {n : String} (h : TyF H v n) (k : Dk p H H') (d : Deck H p) : TyF H' v n := by
  rcases h.split with h | ⟨rfl, a, zs, rfl, ht⟩
  · exact (h.dk k d).f
  · exact .tf (ht.dk k d)
theorem isi_noF {K : PySem.W.Frag} {H : Hp} {v : V} {nm : String} (h : TyF H v nm) (hn : nm ≠ "tuple") : PySem.W.kitOne K (.type nm) (.type "tuple") = some false := by
  rcases h.split with h | ⟨e, _⟩
  · exact isi_no h hn
  · exact absurd e hn
inductive ThG (K : PySem.W.Frag) (H : Hp) : V → Option (List V) → Prop where
  | no {v : V} {nm : String} (h : TyF H v nm) (hn : nm ≠ "tuple") : ThG K H v none
  | yes {a : Addr} {xs : List V} (h : SqT K H a xs) (ht : TyX K H (.ref a) (.type "tuple")) (hx : ∀ x ∈ xs, ∃ n, TyF H x n) : ThG K H (.ref a) (some xs)
/-- a thing: no tuple, or a tuple that is known to the object -/
inductive ThF (H : Hp) : V → Option (List V) → Prop where
  | no {v : V} {nm : String} (h : TyF H v nm) (hn : nm ≠ "tuple") : ThF H v none
  | yes {a : Addr} {xs : List V} (h : TF H a xs) (hx : ∀ x ∈ xs, ∃ n, TyF H x n) : ThF H (.ref a) (some xs)
theorem ThF.ke {H H' : Hp} {v : V} {o : Option (List V)} (h : ThF H v o) (k : Ke H H') : ThF H' v o := by
  cases h with
  | no h hn => exact .no (h.ke k) hn
  | yes h hx => exact .yes (h.ke k) fun x hm => (hx x hm).imp fun _ z => z.ke k
theorem ThF.k {K : PySem.W.Frag} {H : Hp} {v : V} {o : Option (List V)} (h : ThF H v o) : ThG K H v o := by
  cases h with
  | no h hn => exact .no h hn
  | yes h hx => exact .yes h.sq (TyF.x (.tf h)) hx
theorem Tpl.g {K : PySem.W.Frag} {H : Hp} {v : V} {o : Option (List V)} (h : Tpl H v o) : ThG K H v o := by
  cases h with
  | no h hn => exact .no h.f hn
  | yes h hx => exact .yes (sqT_of h) (TyF.x (.tup h)) fun x hm => (hx x hm).imp fun _ z => z.f
theorem ThF.put {H : Hp} {p : Addr} {zs ys : List V} {v : V} {o : Option (List V)} (h : ThF H v o) (k : H p = some (.lst zs)) : ThF (upd H p (.lst ys)) v o := by
  cases h with
  | no h hn => exact .no (h.put k) hn
  | yes h hx => exact .yes (h.put k) fun x hm => (hx x hm).imp fun _ z => z.put k
end FF
namespace FF
open PySem PySem.Spec PyProof.Rows L2
variable [LT]
/-! ### hung from a told root -/
end FF
namespace FF
open PySem PySem.Spec PyProof.Rows L2
variable [LT]
/-! ### points that one comes to along ways, and ties turned -/
section
variable {X : Cx} {K : PySem.W.Frag}
end
theorem WOk.at_ {ts : List (Int × Int)} {ws : List Int} (h : WOk ts ws) {g : Int} (g0 : 0 ≤ g) (g1 : g < ts.length) : ws[g.toNat]? = some (hat ws g) ∧ (hat ws g = (tk ts g).1 ∨ hat ws g = (tk ts g).2) := by
  have hl := h.1
  have e : ws[g.toNat]? = some (hat ws g) := by
    unfold hat
    rw [List.getD_eq_getElem?_getD, List.getElem?_eq_getElem (by omega)]
    rfl
  exact ⟨e, h.2 _ _ _ (getD_at g0 g1) e⟩
/-! ### turned -/
theorem WOk.turn {ts : List (Int × Int)} {ws : List Int} (h : WOk ts ws) {g p : Int} (g0 : 0 ≤ g) (hp : p = (tk ts g).1 ∨ p = (tk ts g).2) : WOk ts (ws.set g.toNat p) := by
  refine ⟨by rw [List.length_set]; exact h.1, fun i t w ht hw => ?_⟩
  rw [List.getElem?_set] at hw
  by_cases c : g.toNat = i
  · subst c
    rw [if_pos rfl] at hw
    split at hw
    · cases hw
      have et : tk ts g = t := by
        show ts.getD g.toNat (0, 0) = t
        rw [List.getD_eq_getElem?_getD, ht]
        rfl
      rw [et] at hp
      exact hp
    · cases hw
  · rw [if_neg c] at hw
    exact h.2 i t w ht hw
/-! ### as few outs as can be -/
theorem TF.ty {K : PySem.W.Frag} {H : Hp} {a : Addr} {xs : List V} (h : TF H a xs) : TyX K H (.ref a) (.type "tuple") := by
  obtain ⟨o, e, _⟩ := h
  exact .fTuple e
end FF
namespace FF
open PySem PySem.Spec PyProof.Rows L2
variable [LT]
/-! ### layers split into forests -/
section
variable {n d : Int} {ts : List (Int × Int)} {ls : List Int}
end
section
variable {n : Int} {ts : List (Int × Int)} {ls : List Int}
end
end FF
namespace FF
open PySem PySem.Spec PyProof.Rows L2
variable [LT]
/-! ### two points tied many times -/
theorem WOk.rep {a b : Int} {m : Nat} {ws : List Int} (h : WOk (List.replicate m (a, b)) ws) : ∀ w ∈ ws, w = a ∨ w = b := fun w hw => by
  obtain ⟨i, hi⟩ := List.getElem?_of_mem hw
  have il := (List.getElem?_eq_some_iff.mp hi).1
  have hl := h.1
  rw [List.length_replicate] at hl
  exact h.2 i (a, b) w (by rw [List.getElem?_replicate, if_pos (by omega)]) hi
end FF
namespace FF
open PySem PySem.Spec PyProof.Rows L2
variable [LT]
/-! ### a list cut where a truth tells the place -/
section
variable {prog : Program} {w : World} {A : Around} {E : Value → Shared → Prop} {s : Shared}
end
section
variable {prog : Program} {w : World} {A : Around} {E : Value → Shared → Prop} {s : Shared}
end
section
variable {X : Cx} {K : PySem.W.Frag} {e lo : Expr} {te tl : TE} {pos p2 : Pos}
end
end FF
namespace FF
open PySem PySem.Spec PyProof.Rows L2
variable [LT]
/-! ### a ring's layer split -/
end FF
namespace FF
open PySem PySem.Spec PyProof.Rows L2
variable [LT]
/-! ### the set of a tuple of ties -/
section
variable {P : Program} {w : World} {A : Around} {E : Value → Shared → Prop} {s : Shared}
end
section
variable {X : Cx}
end
end FF
namespace FF
open PySem PySem.Spec PyProof.Rows L2
variable [LT]
/-! ### the least outs beside the least forests -/
end FF
namespace FF
open PySem PySem.Spec PyProof.Rows L2
variable [LT]
/-! ### rooms: pairs of points that a lot holds, and rows for the others -/
end FF
namespace FF
open PySem PySem.Spec PyProof.Rows L2
variable [LT]
/-! ### what a lot that holds a pair, or a row for it, tells of the web with that tie -/
end FF
namespace FF
open PySem PySem.Spec PyProof.Rows L2
variable [LT]
/-! ### what rooms_of tells -/
end FF
namespace FF
open PySem PySem.Spec PyProof.Rows L2
variable [LT]
/-! ### rows picked out of what rooms_of tells -/
end FF
namespace FF
open PySem PySem.Spec PyProof.Rows L2
variable [LT]
/-! ### (x,) * k known to the object; t.count(None) -/
section
variable {X : Cx}
end
end FF
namespace FF
open PySem PySem.Spec PyProof.Rows L2
variable [LT]
/-! ### lots within lots -/
end FF
namespace FF
open PySem PySem.Spec PyProof.Rows L2
variable [LT]
/-! ### the sorted list of all pairs -/
end FF
namespace FF
open PySem PySem.Spec PyProof.Rows L2
variable [LT]
/-! ### sorted of a list of tuples of ints, any length -/
/-! ### the outs of all ways -/
end FF
namespace FF
open PySem PySem.Spec PyProof.Rows L2
variable [LT]
/-! ### methods of the text's own classes -/
section
variable {P : Program} {w : World} {K : PySem.W.Frag} {mg : Str → Option Value} {base : Heap} {m qual : Str} {st : Stmt} {f C : Addr} {fd : FuncData} {N ps : List Str} {k : Nat} {sp : Sp}
end
/-! a method called within a try -/
section
variable {X : Cx} {CX : CXT} {k : Nat} {f C : Addr} {fd : FuncData} {ps : List Str} {sp : Sp} {E : L2.St → XK} {m : Str} {pos apos : Pos} {e o : Expr} {es : List Expr} {ta : TE} {t : TA}
end
end FF
namespace FF
open PySem PySem.Spec PyProof.Rows L2
variable [LT]
/-! ### a desk's fields -/
section
variable {a b c d e v : V}
end
theorem Kx.web {S : Addr → Prop} {H H' : Hp} {v : V} {n : Int} {ts : List (Int × Int)} (k : Kx S H H') (hs : ∀ b xs, H b = some (.tup xs) → ¬ S b) (W : Web H v n ts) : Web H' v n ts := by
  obtain ⟨tw, wu, rs, rfl, h1, h2, h3⟩ := W
  exact ⟨tw, wu, rs, rfl, k.tup h1 (hs _ _ h1), k.tup h2 (hs _ _ h2), h3.mono fun q xs z => k.tup z (hs _ _ z)⟩
/-! ### what a desk is told, and what it tells -/
/-! ### one forest fewer -/
end FF
namespace FF
open PySem PySem.Spec PyProof.Rows L2
variable [LT]
/-! ### walks within an except suite -/
section
open PySem PySem.Calls HotX
variable {pr : Program} {wo : World} {A : Around} {E : Value → Shared → Prop} {s : Shared}
end
section
open PySem PySem.Calls HotX L2H
end
section
open PySem PySem.Calls HotX L2H
end
section
open HotX L2H
end
section
open HotX L2H
end
end FF
namespace FF
open PySem PySem.Spec PyProof.Rows L2
variable [LT]
/-! ### min of a tuple of ints -/
section
variable {X : Cx} {K : PySem.W.Frag}
end
end FF
namespace FF
open PySem PySem.Spec PyProof.Rows L2
variable [LT]
/-! ### desks: what stays, and what is told as data -/
section
variable {K : PySem.W.Frag} {H H' : Hp} {x : Addr} {n : Int} {ts : List (Int × Int)} {k : Int} {ws : List V} {rv : V} {m : Int}
end
section
variable {K : PySem.W.Frag} {H H' : Hp}
mutual
theorem Dp.mono (hl : ∀ a xs, SqL K H a xs → SqL K H' a xs) (ht : ∀ a xs, SqT K H a xs → SqT K H' a xs) : ∀ (d : PyData) (v : V), Dp K H v d → Dp K H' v d
  | .none, _, h => by
    cases h
    exact .non
  | .bool b, _, h => by
    cases h
    exact .bl b
  | .int i, _, h => by
    cases h
    exact .int i
  | .str x, _, h => by
    cases h
    exact .str x
  | .list ds, _, h => by
    cases h with
    | lst hs ha => exact .lst (hl _ _ hs) (DpAll.mono hl ht ds _ ha)
  | .tuple ds, _, h => by
    cases h with
    | tup hs ha => exact .tup (ht _ _ hs) (DpAll.mono hl ht ds _ ha)
  | .dict _, _, h => by cases h
theorem DpAll.mono (hl : ∀ a xs, SqL K H a xs → SqL K H' a xs) (ht : ∀ a xs, SqT K H a xs → SqT K H' a xs) : ∀ (ds : List PyData) (vs : List V), DpAll K H vs ds → DpAll K H' vs ds
  | [], _, h => by
    cases h
    exact .nil
  | d :: ds, _, h => by
    cases h with
    | cons h1 h2 => exact .cons (Dp.mono hl ht d _ h1) (DpAll.mono hl ht ds _ h2)
end
end
end FF
namespace FF
open PySem PySem.Spec PyProof.Rows L2
variable [LT]
/-! ### what a desk is due to tell, by the fewest forests -/
end FF
namespace FF
open PySem PySem.Spec PyProof.Rows L2
variable [LT]
/-! ### desks: webs, and what stands of a desk -/
end FF
namespace FF
open PySem PySem.Spec PyProof.Rows L2
variable [LT]
/-! ### is not of any thing and a bool -/
end FF
namespace FF
open PySem PySem.Spec PyProof.Rows L2
variable [LT]
/-! ### a desk's deeds, each with one outcome -/
end FF
namespace FF
open PySem PySem.Spec PyProof.Rows L2
variable [LT]
/-! ### a, b, .. = a list of that length -/
end FF
namespace FF
open PySem PySem.Spec PyProof.Rows L2
variable [LT]
/-! ### what is told stays -/
structure Kp (H H' : Hp) : Prop where
  tup : ∀ q xs, H q = some (.tup xs) → H' q = some (.tup xs)
  str : ∀ l s r, H l = some (.lst (.str s :: r)) → H' l = some (.lst (.str s :: r))
theorem Kp.trans {H H' H2 : Hp} (a : Kp H H') (b : Kp H' H2) : Kp H H2 := ⟨fun q xs z => b.tup q xs (a.tup q xs z), fun l s r z => b.str l s r (a.str l s r z)⟩
theorem Ke.kp {H H' : Hp} (k : Ke H H') : Kp H H' := ⟨fun _ _ z => Ke.tup k z, fun _ _ _ z => Ke.lst k z⟩
theorem Kp.put {H : Hp} {p : Addr} {hs hs' : List V} (h : H p = some (.lst hs)) (hn : ∀ s r, hs ≠ .str s :: r) : Kp H (upd H p (.lst hs')) := ⟨fun q xs z => by
  rw [upd_ne (ne_of z h fun y => nomatch y)]
  exact z, fun l s r z => by
  rw [upd_ne fun e => ?_]
  · exact z
  · rw [e, h] at z
    injection z with z
    injection z with z
    exact hn s r z⟩
theorem Dk.kp {p : Addr} {H H' : Hp} (k : Dk p H H') (d : Deck H p) : Kp H H' := ⟨fun q xs z => k.tup d z, fun l s r z => k.lst z fun e => by
  obtain ⟨ds, h, _⟩ := d
  rw [e, h] at z
  injection z with z
  injection z with z
  cases ds with
  | nil => cases z
  | cons a b => cases z⟩
end FF
namespace FF
open PySem PySem.Spec PyProof.Rows L2
variable [LT]
/-! ### sorted(tuple of pairs) -/
section
variable {prog : Program} {w : World} {A : Around} {E : Value → Shared → Prop} {s : Shared}
end
/-! ### collections in which no lot is full -/
section
variable {K : PySem.W.Frag} {H H' : Hp} {x : Addr} {n : Int} {ts : List (Int × Int)} {k : Int} {ws : List V} {rv : V} {m : Int} {l : Addr}
end
end FF
namespace FF
open PySem PySem.Spec PyProof.Rows L2
variable [LT]
/-! ### the search from several ties at once -/
section
variable {ts : List (Int × Int)} {ws : List V} {k : Int} {Zs : List Int} {fl : List (Int × Option (Int × Int))} {lv : Nat → Nat} {a : Nat}
end
section
variable {H : Hp} {n : Int} {ts : List (Int × Int)} {ws : List V} {k : Int} {Zs : List Int} {d nb hg wt : Addr} {bl : List (Int × Addr)} {G G' : Hp} {pl pl' : List (Int × V)} {fl fl' : List (Int × Option (Int × Int))} {lv lv' : Nat → Nat} {a a' : Nat} {gl gl' : List (Int × Addr)}
end
end FF
namespace FF
open PySem PySem.Spec PyProof.Rows L2
variable [LT]
/-! ### what lies within a tight lot stays there -/
section
variable {ts : List (Int × Int)} {n k : Int} {ws : List V} {ls : List Int}
abbrev inL (ts : List (Int × Int)) (ls : List Int) (m : Int) : Prop := (tk ts m).1 ∈ ls ∧ (tk ts m).2 ∈ ls
theorem TightL.joined (h : TightL ts n k ws ls) (hL : LayK ts k ws) {f : Int} (f0 : 0 ≤ f) (f1 : f < k) {a b : Int} (ha : a ∈ ls) (hb : b ∈ ls) : jn ts ((numsFrom f 0 ws).filter fun m => decide ((tk ts m).1 ∈ ls) && decide ((tk ts m).2 ∈ ls)) a b := by
  have e : pick ts ((numsFrom f 0 ws).filter fun m => decide ((tk ts m).1 ∈ ls) && decide ((tk ts m).2 ∈ ls)) = (layerOf ts ws f).filter fun t => decide (t.1 ∈ ls) && decide (t.2 ∈ ls) := by
    rw [← show pick ts (numsFrom f 0 ws) = layerOf ts ws f from pick_nums f [] ts ws hL.len.symm]
    unfold pick
    rw [List.filter_map]
    rfl
  show foldR (fun x => x) (pick ts _) a = foldR (fun x => x) (pick ts _) b
  rw [e]
  exact tight_joined (hL.tree f) h.lot (h.tight f f0 f1) ha hb
theorem TightL.ring (h : TightL ts n k ws ls) (hL : LayK ts k ws) {f : Int} (f0 : 0 ≤ f) (f1 : f < k) {s x : Int} (hs : inL ts ls s) (ho : OnR ts (numsFrom f 0 ws) s x) : inL ts ls x := by
  by_cases c : inL ts ls x
  · exact c
  · refine (ho.2 (jn_sub (fun m hm => ?_) (h.joined hL f0 f1 hs.1 hs.2))).elim
    obtain ⟨m1, m2⟩ := List.mem_filter.mp hm
    rw [Bool.and_eq_true, decide_eq_true_eq, decide_eq_true_eq] at m2
    unfold but
    refine List.mem_filter.mpr ⟨m1, ?_⟩
    rw [decide_eq_false (p := m = x) fun z => c (by rw [← z]; exact m2)]
    rfl
theorem TightL.rch (h : TightL ts n k ws ls) (hL : LayK ts k ws) {t x : Int} (ht : inL ts ls t) (hr : Rch ts ws k t x) : inL ts ls x := by
  induction hr with
  | base => exact ht
  | step _ f0 f1 _ _ ho ih => exact h.ring hL f0 f1 ih ho
theorem TightL.no_row (h : TightL ts n k ws ls) (hL : LayK ts k ws) : ∀ {es : List (Int × Int)} {e : Int × Int} {r : List (Int × Int)}, es = e :: r → PRow ts ws k es → inL ts ls e.1 → False
  | [], _, _, h0, _, _ => nomatch h0
  | [e], _, _, h0, hp, hi => by
    cases h0
    obtain ⟨_, f0, f1⟩ := hp.bd e (List.mem_singleton.mpr rfl)
    have hj : joinB ts ws e = true := (jn_join hL.len).mpr (jn_sub (fun m hm => (List.mem_filter.mp hm).1) (h.joined hL f0 f1 hi.1 hi.2))
    have hq : (!joinB ts ws e) = true := hp.push
    rw [hj] at hq
    cases hq
  | e :: e' :: r, _, _, h0, hp, hi => by
    cases h0
    obtain ⟨_, f0, f1⟩ := hp.bd e List.mem_cons_self
    have ho := (pushB_parts.mp hp.push).2.1
    exact h.no_row hL rfl hp.tail (h.ring hL f0 f1 hi ho)
theorem TightL.free (h : TightL ts n k ws ls) (hL : LayK ts k ws) {t : Int} (ht : inL ts ls t) : ¬ ∃ d r, PRow ts ws k (d :: r) ∧ d.1 = t := fun ⟨d, r, hp, e⟩ => h.no_row hL rfl hp (e ▸ ht)
end
/-! ### what is reached from a tie that no row lays -/
theorem Closed.tight {ts : List (Int × Int)} {n k : Int} {ws : List V} {R ls : List Int} (h : Closed ts ws k R) (hL : LayK ts k ws) (hE : EndsOf ts R ls) (hl : Lot n ls) (hne : R ≠ []) : TightL ts n k ws ls := ⟨hl, fun f f0 f1 => h.tree hL.len hE hne hL.tree f0 f1⟩
/-! ### the noted lots are the least -/
theorem filter_imp {α : Type} {p q : α → Bool} (h : ∀ x, p x = true → q x = true) (l : List α) : l.filter p = (l.filter q).filter p := by
  rw [List.filter_filter]
  refine List.filter_congr fun x _ => ?_
  cases e : p x with
  | false => rfl
  | true => rw [h x e]; rfl
/-- ties within a tight lot are the same when more is laid -/
theorem TightL.back {ts : List (Int × Int)} {n k : Int} {ws ws' : List V} {ls ls' : List Int} (h : TightL ts n k ws ls) (hk : 0 ≤ k) (hL : LayK ts k ws) (hL' : LayK ts k ws') (hs : ∀ i : Nat, ws'[i]? = some .non → ws[i]? = some .non) (h' : TightL ts n k ws' ls') (sub : ∀ x ∈ ls', x ∈ ls) : TightL ts n k ws ls' := by
  refine ⟨h'.lot, fun f f0 f1 => ?_⟩
  have hst := h.stay hk hL hL' hs
  have e1 := (tight_iff hL hk h.lot.nd h.lot.ne).mpr fun f f0 f1 => by have := h.tight f f0 f1; omega
  have e2 := (tight_iff hL' hk h.lot.nd h.lot.ne).mpr fun f f0 f1 => by have := hst.tight f f0 f1; omega
  have sl := (laidT_sub (ts := ts) (hL'.len.trans hL.len.symm) hs).filter fun t : Int × Int => decide (t.1 ∈ ls) && decide (t.2 ∈ ls)
  have ee : (laidT ts ws).filter (fun t : Int × Int => decide (t.1 ∈ ls) && decide (t.2 ∈ ls)) = (laidT ts ws').filter fun t : Int × Int => decide (t.1 ∈ ls) && decide (t.2 ∈ ls) := sl.eq_of_length (by
    unfold inside at e1 e2
    omega)
  have hp : ∀ t : Int × Int, (decide (t.1 ∈ ls') && decide (t.2 ∈ ls')) = true → (decide (t.1 ∈ ls) && decide (t.2 ∈ ls)) = true := fun t z => by
    rw [Bool.and_eq_true, decide_eq_true_eq, decide_eq_true_eq] at z ⊢
    exact ⟨sub _ z.1, sub _ z.2⟩
  have e3 : inside ls' (laidT ts ws) = inside ls' (laidT ts ws') := by
    unfold inside
    rw [filter_imp hp (laidT ts ws), filter_imp hp (laidT ts ws'), ee]
  have e4 := (tight_iff hL' hk h'.lot.nd h'.lot.ne).mpr fun f f0 f1 => by have := h'.tight f f0 f1; omega
  rw [← e3] at e4
  have := (tight_iff hL hk h'.lot.nd h'.lot.ne).mp e4 f f0 f1
  omega
end FF
namespace FF
open PySem PySem.Spec PyProof.Rows L2
variable [LT]
/-! ### which ties some fullest laying leaves out -/
section
variable {ts : List (Int × Int)} {n k : Int} {ws : List V} {Zs : List Int} {fl : List (Int × Option (Int × Int))} {lv : Nat → Nat} {a : Nat}
/-! ### the row that leaves a tie out -/
end
end FF
namespace FF
open PySem PySem.Spec PyProof.Rows L2
variable [LT]
/-! ### what needed_ties tells -/
theorem Pth.key {fl : FlT} {x : Int} {es : List (Int × Int)} (h : Pth fl x es) : x ∈ fl.map Prod.fst := by
  cases h with
  | root h => exact List.mem_map.mpr ⟨_, h, rfl⟩
  | step h _ => exact List.mem_map.mpr ⟨_, h, rfl⟩
end FF
namespace FF
open PySem PySem.Spec PyProof.Rows L2
variable [LT]
/-! ### all layings of a small web -/
theorem LayK.nil_iff {k : Int} {ws : List V} (h : LayK [] k ws) : ws = [] := List.length_eq_zero_iff.mp h.len
/-- a laying of one tie more is a laying and an entry -/
theorem LayK.init {ts : List (Int × Int)} {k : Int} {ws : List V} {i : Nat} (hi : i < ts.length) (h : LayK (ts.take (i + 1)) k ws) : ∃ us x, ws = us ++ [x] ∧ LayK (ts.take i) k us ∧ (x = .non ∨ ∃ f, x = V.int f ∧ 0 ≤ f ∧ f < k) := by
  have hl := h.len
  rw [List.length_take] at hl
  have hne : ws ≠ [] := fun z => by rw [z] at hl; have : 0 = min (i + 1) ts.length := hl; omega
  obtain ⟨us, x, rfl⟩ : ∃ us x, ws = us ++ [x] := ⟨_, _, (List.dropLast_concat_getLast hne).symm⟩
  rw [List.length_append, List.length_singleton] at hl
  refine ⟨us, x, rfl, ?_, h.each x (List.mem_append_right _ List.mem_cons_self)⟩
  have := h.erase (g := i) (by rw [List.length_take]; omega)
  rw [show (us ++ [x]).eraseIdx i = us by rw [List.eraseIdx_append_of_length_le (by omega), show i - us.length = 0 by omega]; exact List.append_nil _, show (ts.take (i + 1)).eraseIdx i = ts.take i by rw [List.take_add_one, List.eraseIdx_append_of_length_le (by rw [List.length_take]; omega), List.length_take, show i - min i ts.length = 0 by omega, List.getElem?_eq_getElem hi]; exact List.append_nil _] at this
  exact this
end FF
namespace FF
open PySem PySem.Spec PyProof.Rows L2
variable [LT]
/-! ### what needed_ties tells, as data -/
end FF
namespace FF
open PySem PySem.Spec PyProof.Rows L2
variable [LT]
/-! ### a search that notes whence each came -/
section
variable {H H' : Hp} {kl : List (Int × V)} {pl : List (Int × Option (Int × Int))}
end
section
variable {n : Int} {ts : List (Int × Int)} {ms : List Int} {a : Int} {pl : List (Int × Option (Int × Int))}
end
end FF
namespace FF
open PySem PySem.Spec PyProof.Rows L2
variable [LT]
/-! ### tuple(reversed(xs)) -/
section
variable {prog : Program} {w : World} {A : Around} {E : Value → Shared → Prop} {s : Shared}
end
section
variable {X : Cx}
end
end FF
namespace FF
open PySem PySem.Spec PyProof.Rows L2
variable [LT]
/-! ### rows that lay a tie, as the program looks at them -/
end FF
namespace FF
open PySem PySem.Spec PyProof.Rows L2
variable [LT]
/-! ### rooms of all tight lots -/
section
variable {ts : List (Int × Int)} {n k : Int} {ws : List V} {ps : List (Int × Int)} {lots lots' : List (List Int)} {rows rows' : List ((Int × Int) × List (Int × Int))}
end
/-! ### rooms as data -/
end FF
namespace FF
open PySem PySem.Spec PyProof.Rows L2
variable [LT]
/-! ### layings that are known to the object -/
theorem TF.kx {S : Addr → Prop} {H H' : Hp} {a : Addr} {xs : List V} (h : TF H a xs) (k : Kx S H H') (n : ¬ S a) : TF H' a xs := by
  obtain ⟨o, e, d⟩ := h
  exact ⟨o, k.at_ a _ e (fun _ z => nomatch z) n, d⟩
theorem TF.ne {H : Hp} {a b : Addr} {xs : List V} {u : HO} (h : TF H a xs) (e : H b = some u) (n : ∀ o ys, u ≠ .frz o (.tup ys)) : a ≠ b := fun z => by
  obtain ⟨o, e1, _⟩ := h
  rw [z, e] at e1
  exact n _ _ (Option.some.inj e1)
end FF
namespace FF
open PySem PySem.Spec PyProof.Rows L2
variable [LT]
/-! ### how many ties one forest more lays -/
end FF
namespace FF
open PySem PySem.Spec PyProof.Rows L2
variable [LT]
/-! ### things looked into to any depth -/
/-! ### rooms of any thing -/
end FF
namespace FF
open PySem PySem.Spec PyProof.Rows L2
variable [LT]
/-! ### papers of rooms, of any thing -/
end FF
namespace FF
open PySem PySem.Spec PyProof.Rows L2
variable [LT]
/-! ### rows of things looked into five deep -/
end FF
namespace FF
open PySem PySem.Spec PyProof.Rows L2
variable [LT]
/-! ### the answer about a paper of rooms stays -/
end FF
namespace FF
open PySem PySem.Spec PyProof.Rows L2
variable [LT]
/-! ### tables of defs with a lambda -/
def LTabs (lt : List (Addr × Str)) (H : Hp) : Prop := ∀ p ∈ lt, LamX.TabS H p.1 p.2
/-- what is told of the list of such tables -/
structure LtOk (lt : List (Addr × Str)) : Prop where
  lam : ∀ p ∈ lt, LT.lam p.1 = true
  one : ∀ p ∈ lt, ∀ q ∈ lt, p.1 = q.1 → p.2 = q.2
theorem LTabs.kx {lt : List (Addr × Str)} (ok : LtOk lt) {S : Addr → Prop} {H H' : Hp} (h : LTabs lt H) (k : Kx S H H') (hS : ∀ b, S b → (∀ ps, H b ≠ some (.tbl ps)) ∧ ∀ c q, H b ≠ some (LamX.CodeO c q)) : LTabs lt H' := fun p hp => by
  obtain ⟨ps, e1, e2, e3⟩ := h p hp
  refine ⟨ps, k.lam _ ps (ok.lam p hp) (fun z => (hS _ z).1 ps e1) e1, e2, fun pos cv hc => ?_⟩
  obtain ⟨c, g1, g2⟩ := e3 pos cv hc
  exact ⟨c, g1, k.at_ c _ g2 LamX.codeO_ne fun z => (hS _ z).2 c _ g2⟩
theorem LTabs.ke {lt : List (Addr × Str)} (ok : LtOk lt) {H H' : Hp} (h : LTabs lt H) (k : Ke H H') : LTabs lt H' := h.kx ok k fun _ z => z.elim
theorem LTabs.at_lst {lt : List (Addr × Str)} (ok : LtOk lt) {p : Addr} {xs : List V} {H H' : Hp} (h : LTabs lt H) (k : Kx (fun b => b = p) H H') (hp : H p = some (.lst xs)) : LTabs lt H' := h.kx ok k fun b z => by
  rw [z]
  exact ⟨fun ps e => (by rw [hp] at e; cases e), fun c q e => (by rw [hp] at e; unfold LamX.CodeO at e; cases e)⟩
theorem LTabs.dk {lt : List (Addr × Str)} (ok : LtOk lt) {p : Addr} {H H' : Hp} (h : LTabs lt H) (k : Dk p H H') (d : Deck H p) : LTabs lt H' := by
  obtain ⟨ds, e, _⟩ := d
  exact h.at_lst ok k.k e
/-- what the making of a lambda, or a call of a def that makes one, leaves as it was: all but tables of such -/
abbrev Kl (lt : List (Addr × Str)) := Kx fun b => ∃ p ∈ lt, p.1 = b
theorem Kl.not {lt : List (Addr × Str)} {H : Hp} (h : LTabs lt H) {b : Addr} {o : HO} (e : H b = some o) (n : ∀ ps, o ≠ .tbl ps) : ¬ ∃ p ∈ lt, p.1 = b := fun ⟨p, hp, z⟩ => by
  obtain ⟨ps, g, _⟩ := h p hp
  rw [z, e] at g
  exact n ps (Option.some.inj g)
theorem Kl.at' {lt : List (Addr × Str)} {H H' : Hp} (k : Kl lt H H') (h : LTabs lt H) {b : Addr} {o : HO} (e : H b = some o) (n : ∀ ps, o ≠ .tbl ps) : H' b = some o := k.at_ b o e n (Kl.not h e n)
theorem Kl.lst' {lt : List (Addr × Str)} {H H' : Hp} (k : Kl lt H H') (h : LTabs lt H) {q : Addr} {xs : List V} (e : H q = some (.lst xs)) : H' q = some (.lst xs) := k.at' h e fun _ z => nomatch z
theorem Kl.deck {lt : List (Addr × Str)} {H H' : Hp} {p : Addr} (k : Kl lt H H') (h : LTabs lt H) (d : Deck H p) : Deck H' p := by
  obtain ⟨ds, e, g⟩ := d
  exact ⟨ds, k.lst' h e, g⟩
theorem Ke.kl {lt : List (Addr × Str)} {H H' : Hp} (k : Ke H H') : Kl lt H H' := k.to
section
variable {X : Cx} {pins : List (Addr × Obj)} {σ : L2.St} {H : Hp} {s : Shared}
end
end FF
namespace FF
open PySem PySem.Spec PyProof.Rows L2
variable [LT]
/-! ### a lambda of one parameter: its names, its call -/
section
variable {X : Cx} {pins : List (Addr × Obj)} {σ : L2.St} {H : Hp} {s : Shared}
end
end FF
namespace FF
open PySem PySem.Spec PyProof.Rows L2
variable [LT]
/-! ### sorted(.., key=a lambda) -/
section
variable {prog : Program} {w : World} {A : Around} {E : Value → Shared → Prop}
end
section
variable {X : Cx} {pins : List (Addr × Obj)} {σ : L2.St} {H : Hp} {s : Shared}
end
end FF
namespace FF
open PySem PySem.Spec PyProof.Rows L2
variable [LT]
/-! ### sorted(.., key=a lambda): the rules -/
section
variable {X : Cx} {pins : List (Addr × Obj)} {σ : L2.St} {H : Hp} {s : Shared}
end
end FF
namespace FF
open PySem PySem.Spec PyProof.Rows L2
variable [LT]
/-! ### sorted(list, key=a lambda), sorted(range(..), key=a lambda) -/
section
variable {X : Cx} {lt : List (Addr × Str)} {c P : Addr} {N : List Str} {src : List Nat} {p : Str} {scope : Scope} {params : Arguments} {body e : Expr} {k : Nat} {te tb : TE} {p1 lpos kpos pos : Pos}
end
end FF
namespace FF
open PySem PySem.Spec PyProof.Rows L2
variable [LT]
/-! ### ties in the order of cheapness, laid one after the other -/
def prI (ps : List Int) (i : Nat) : Int := ps.getD i 0
/-- i is cheaper than j -/
def chB (ps : List Int) (i j : Nat) : Prop := prI ps i < prI ps j ∨ (prI ps i = prI ps j ∧ i < j)
instance (ps : List Int) (i j : Nat) : Decidable (chB ps i j) := by unfold chB; exact inferInstance
/-! the ties of numbers, those laid among them -/
def tsN (ts : List (Int × Int)) (l : List Nat) : List (Int × Int) := l.map fun i => ts.getD i (0, 0)
def ldN (ws : List V) (l : List Nat) : List Nat := l.filter fun i => !decide (ws.getD i .non = V.non)
theorem laidT_tsN : ∀ {ts : List (Int × Int)} {ws : List V}, ws.length = ts.length → laidT ts ws = tsN ts (ldN ws (List.range ts.length)) := by
  intro ts ws hl
  have h := pick_laid hl ts.length (Nat.le_refl _)
  rw [List.take_length, List.take_of_length_le (by omega)] at h
  rw [← h]
  unfold pick laidM tsN ldN upTo
  rw [Int.toNat_natCast, List.filter_map, List.map_map]
  rfl
theorem tsN_perm {ts : List (Int × Int)} {l m : List Nat} (h : l.Perm m) : (tsN ts l).Perm (tsN ts m) := h.map _
/-- no lot has more laid ties within than its forests hold -/
theorem LayK.most {ts : List (Int × Int)} {k : Int} {ws : List V} (hL : LayK ts k ws) (hk : 0 ≤ k) {ls : List Int} (hn : ls.Nodup) (hne : ls ≠ []) : (inside ls (laidT ts ws) : Int) ≤ k * ((ls.length : Int) - 1) := by
  have e := inside_laid ls hL.len hL.each
  rw [e]
  have hm := sum_most (s := (ls.length : Int) - 1) (g := fun f => (inside ls (layerOf ts ws f) : Int)) (l := upTo k) fun f _ => by
    have := inside_forest (hL.tree f) hn hne
    show (inside ls (layerOf ts ws f) : Int) ≤ _
    omega
  have hl : ((upTo k).length : Int) = k := by rw [upTo_length]; omega
  rw [hl] at hm
  exact hm.1
/-! the law's own: each tie, in the order, that can be laid with those taken ahead -/
end FF
namespace FF
open PySem PySem.Spec PyProof.Rows L2
variable [LT]
/-! ### (p, i) < (q, j), (p, i) > (q, j) -/
end FF
namespace FF
open PySem PySem.Spec PyProof.Rows L2
variable [LT]
/-! ### papers of cheapest ties, of any thing -/
end FF
namespace FF
open PySem PySem.Spec PyProof.Rows L2
variable [LT]
/-! ### no others that can be laid are more -/
theorem lay_tsN {ts : List (Int × Int)} {ws : List V} (h : ws.length = ts.length) (f : Int) : layerOf ts ws f = tsN ts ((List.range ts.length).filter fun i => decide (ws.getD i .non = V.int f)) := by
  unfold layerOf tsN
  have key : ∀ m, m ≤ ts.length → (((ts.take m).zip (ws.take m)).filter fun p => decide (p.2 = V.int f)).map Prod.fst = ((List.range m).filter fun i => decide (ws.getD i .non = V.int f)).map fun i => ts.getD i (0, 0) := by
    intro m
    induction m with
    | zero => exact fun _ => rfl
    | succ m ih =>
      intro hm
      have h1 : ts[m]? = some (ts.getD m (0, 0)) := by rw [List.getD_eq_getElem?_getD, List.getElem?_eq_getElem (by omega)]; rfl
      have h2 : ws[m]? = some (ws.getD m .non) := by rw [List.getD_eq_getElem?_getD, List.getElem?_eq_getElem (by omega)]; rfl
      rw [take_next h1, take_next h2, List.zip_append (by rw [List.length_take, List.length_take]; omega), List.filter_append, List.map_append, ih (by omega), List.range_succ, List.filter_append, List.map_append]
      congr 1
      show (List.filter _ [(ts.getD m (0, 0), ws.getD m .non)]).map Prod.fst = _
      rw [List.filter_cons, List.filter_cons]
      dsimp only
      split <;> rfl
  have := key ts.length (Nat.le_refl _)
  rw [List.take_length, List.take_of_length_le (by omega)] at this
  exact this
theorem getD_map_pre {α : Type} (pre : List Nat) (g : Nat → α) (d : α) (i : Nat) (hi : i < pre.length) : (pre.map g).getD i d = g (pre.getD i 0) := by
  rw [List.getD_eq_getElem?_getD, List.getElem?_map, List.getElem?_eq_getElem hi, List.getD_eq_getElem?_getD, List.getElem?_eq_getElem hi]
  rfl
theorem range_getD (pre : List Nat) : (List.range pre.length).map (fun i => pre.getD i 0) = pre := by
  refine List.ext_getElem? fun i => ?_
  rw [List.getElem?_map]
  by_cases h : i < pre.length
  · rw [List.getElem?_range h, List.getElem?_eq_getElem h]
    show some (pre.getD i 0) = _
    rw [List.getD_eq_getElem?_getD, List.getElem?_eq_getElem h]
    rfl
  · rw [List.getElem?_eq_none (by rw [List.length_range]; omega), List.getElem?_eq_none (by omega)]
    rfl
/-- the layer of picked ties -/
theorem lay_pre {ts : List (Int × Int)} {ws : List V} (pre : List Nat) (f : Int) : layerOf (tsN ts pre) (pre.map fun i => ws.getD i .non) f = tsN ts (pre.filter fun i => decide (ws.getD i .non = V.int f)) := by
  have hl : (pre.map fun i => ws.getD i .non).length = (tsN ts pre).length := by unfold tsN; rw [List.length_map, List.length_map]
  rw [lay_tsN hl]
  have e : (tsN ts pre).length = pre.length := by unfold tsN; rw [List.length_map]
  rw [e]
  conv => rhs; rw [← range_getD pre]
  unfold tsN
  rw [List.filter_map, List.map_map]
  have e1 : (List.range pre.length).filter (fun i => decide ((pre.map fun i => ws.getD i .non).getD i .non = V.int f)) = (List.range pre.length).filter ((fun i => decide (ws.getD i .non = V.int f)) ∘ fun i => pre.getD i 0) := List.filter_congr fun i hi => by
    rw [getD_map_pre pre _ _ i (List.mem_range.mp hi)]
    rfl
  rw [e1]
  refine List.map_congr_left fun i hi => ?_
  exact getD_map_pre pre (fun i => ts.getD i (0, 0)) _ i (List.mem_range.mp (List.mem_filter.mp hi).1)
theorem sub_of {l m : List Nat} (hl : l.Nodup) (hm : m.Nodup) (h : ∀ x ∈ l, x ∈ m) : ∃ l', l.Perm l' ∧ l'.Sublist m := by
  refine ⟨m.filter fun x => decide (x ∈ l), (List.perm_ext_iff_of_nodup hl (hm.filter _)).mpr fun x => ?_, List.filter_sublist⟩
  rw [List.mem_filter, decide_eq_true_eq]
  exact ⟨fun z => ⟨h x z, z⟩, fun z => z.2⟩
theorem LayK.pre {ts : List (Int × Int)} {k : Int} {ws : List V} (hL : LayK ts k ws) {pre : List Nat} (nd : pre.Nodup) (hd : ∀ i ∈ pre, i < ts.length) : LayK (tsN ts pre) k (pre.map fun i => ws.getD i .non) := by
  have hwl := hL.len
  refine ⟨by unfold tsN; rw [List.length_map, List.length_map], fun x hx => ?_, fun f => ?_⟩
  · obtain ⟨i, hi, rfl⟩ := List.mem_map.mp hx
    have il : i < ws.length := by have := hd i hi; omega
    have : ws.getD i .non ∈ ws := by
      rw [List.getD_eq_getElem?_getD, List.getElem?_eq_getElem il]
      exact List.getElem_mem il
    exact hL.each _ this
  · rw [lay_pre]
    obtain ⟨l', hp, hs⟩ := sub_of (nd.filter fun i => decide (ws.getD i .non = V.int f)) (List.nodup_range.filter fun i => decide (ws.getD i .non = V.int f)) (m := (List.range ts.length).filter fun i => decide (ws.getD i .non = V.int f)) fun x hx => by
      obtain ⟨h1, h2⟩ := List.mem_filter.mp hx
      exact List.mem_filter.mpr ⟨List.mem_range.mpr (hd x h1), h2⟩
    rw [ringlessF_perm (tsN_perm hp)]
    refine ringlessF_sub (hs.map _) ?_
    have := hL.tree f
    rw [lay_tsN hwl] at this
    exact this
end FF
namespace FF
open PySem PySem.Spec PyProof.Rows L2
variable [LT]
/-! ### none dearer -/
end FF
namespace FF
open PySem PySem.Spec PyProof.Rows L2
variable [LT]
/-! ### the told paper of cheapest ties is let by -/
end FF
namespace FF
open PySem PySem.Spec PyProof.Rows L2
variable [LT]
/-! ### numbers sorted -/
end FF
namespace FF
open PySem PySem.Spec PyProof.Rows L2
variable [LT]
/-! ### ties in another order: the same prices are laid -/
theorem LayK.can {n : Nat} {ts : List (Int × Int)} {k : Int} {ws : List V} (hL : LayK ts k ws) (hk : 0 ≤ k) : canF n (tsN ts (ldN ws (List.range ts.length))) k = true := canF_iff.mpr fun ls hls => by
  rw [← laidT_tsN hL.len]
  exact hL.most hk (hls.up.imp fun h => Int.ne_of_lt h) hls.ne
end FF
namespace FF
open PySem PySem.Spec PyProof.Rows L2
variable [LT]
/-! ### str of data: asked where no repr is under way -/
/-! a def that is right where no repr is under way -/
end FF
namespace FF
open PySem PySem.Spec PyProof.Rows L2
variable [LT]
/-! ### the end of a law that asks str: it starts where no repr is under way -/
section
variable {K : PySem.W.Frag} {cs : List (Addr × Addr)} {a : Addr} {vs : List Value} {ns : List Int} {h : Heap}
open Classical in
/-- all that is tracked at a law's start: the tables, and the script's list unless it stands in the fragment -/
noncomputable def H0G (K : PySem.W.Frag) (cs : List (Addr × Addr)) (a : Addr) (vs : List Value) (ns : List Int) : Hp := fun b =>
  if (∃ p ∈ cs, p.2 = b) then some (.tbl #[]) else if b = a ∧ K.lookup a = none then some (.frz { cls := .type "list", data := .seq vs.toArray } (.lst (ns.map V.int))) else none
end
end FF
namespace FF
open PySem PySem.Spec PyProof.Rows L2
variable [LT]
/-! ### lots of any thing -/
theorem rising_low {n : Int} : ∀ {lo : Int} {xs : List V}, rising n lo xs = true → (intsOf xs).Pairwise (· < ·) ∧ ∀ x ∈ intsOf xs, lo ≤ x ∧ x < n
  | _, [], _ => ⟨.nil, fun _ h => nomatch h⟩
  | lo, v :: r, h => by
    cases v with
    | int i =>
      have h : (isNum (.int i) lo (n - 1) && rising n (i + 1) r) = true := h
      obtain ⟨h1, h2⟩ := Bool.and_eq_true_iff.mp h
      have h1 : (decide (lo ≤ i) && decide (i ≤ n - 1)) = true := h1
      obtain ⟨a, b⟩ := Bool.and_eq_true_iff.mp h1
      have a := of_decide_eq_true a
      have b := of_decide_eq_true b
      obtain ⟨p, q⟩ := rising_low h2
      refine ⟨List.pairwise_cons.mpr ⟨fun x hx => ?_, p⟩, fun x hx => ?_⟩
      · have := q x hx
        show i < x
        omega
      · rcases List.mem_cons.mp hx with z | hx
        · obtain rfl : x = i := z
          exact ⟨a, by omega⟩
        · have := q x hx
          omega
    | _ => cases h
theorem isNum_ints {n : Int} {xs : List V} (h : ∀ x ∈ xs, isNum x 0 (n - 1) = true) : xs = (intsOf xs).map V.int ∧ ∀ x ∈ intsOf xs, 0 ≤ x ∧ x < n := by
  induction xs with
  | nil => exact ⟨rfl, fun _ z => nomatch z⟩
  | cons v r ih =>
    obtain ⟨e, q⟩ := ih fun x hx => h x (List.mem_cons_of_mem _ hx)
    have hv := h v List.mem_cons_self
    cases v with
    | int i =>
      have hv : (decide (0 ≤ i) && decide (i ≤ n - 1)) = true := hv
      obtain ⟨a, b⟩ := Bool.and_eq_true_iff.mp hv
      have a := of_decide_eq_true a
      have b := of_decide_eq_true b
      refine ⟨?_, fun x hx => ?_⟩
      · show V.int i :: r = V.int i :: (intsOf r).map V.int
        rw [← e]
      · rcases List.mem_cons.mp hx with z | hx
        · obtain rfl : x = i := z
          exact ⟨a, by omega⟩
        · exact q x hx
    | _ => cases hv
end FF
namespace FF
open PySem PySem.Spec PyProof.Rows L2
variable [LT]
/-! ### data that str shows -/
end FF
namespace FF
open PySem PySem.Spec PyProof.Rows L2
variable [LT]
/-! ### sums of prices; what cheapest_ties tells, as data -/
end FF
namespace FF
open PySem PySem.Spec PyProof.Rows L2
variable [LT]
/-! ### defs that are called within an except suite -/
section
open HotX L2H
end
end FF
namespace FF
open PySem PySem.Spec PyProof.Rows L2
variable [LT]
/-! ### stand-ins -/
end FF
namespace FF
open PySem PySem.Spec PyProof.Rows L2
variable [LT]
/-! ### the numbers without one -/
end FF
namespace FF
open PySem PySem.Spec PyProof.Rows L2
variable [LT]
/-! ### all stand-ins -/
end FF
namespace FF
open PySem PySem.Spec PyProof.Rows L2
variable [LT]
/-! ### a search that goes on and back (what it may still find, how long it goes) -/
end FF
namespace FF
open PySem PySem.Spec PyProof.Rows L2
variable [LT]
/-! ### dict(zip(xs, ys)) of two lists, the keys ints -/
section
variable {X : Cx}
end
end FF
namespace FF
open PySem PySem.Spec PyProof.Rows L2
variable [LT]
/-! ### papers made up: places turned, reasons picked -/
/-! the greedy, piece by piece -/
end FF
namespace FF
open PySem PySem.Spec PyProof.Rows L2
variable [LT]
/-! ### one of a list's things -/
theorem Ke.newT {H G : Hp} {p : Addr} {o : HO} (b : Ke H (upd G p o)) : Ke H (upd G p o) ∧ (upd G p o) p = some o := ⟨b, upd_same⟩
end FF
namespace FF
open PySem PySem.Spec PyProof.Rows L2
variable [LT]
/-! ### tuple(reversed(xs)), xs a tuple -/
section
open RT PySem
variable {prog : Program} {w : World} {A : Around} {E : Value → Shared → Prop} {s : Shared}
end
section
open RT PySem
variable {X : Cx}
end
end FF
namespace FF
open PySem PySem.Spec PyProof.Rows L2
variable [LT]
/-! ### cheaper ties make trees in a reason's lot; the same ties at other prices -/
/-! the ring within the reason's lot -/
/-! three trees on all points -/
end FF
namespace FF
open PySem PySem.Spec PyProof.Rows L2
variable [LT]
/-! ### webs of which all is laid, two points, a ring -/
/-! two points -/
/-! a ring -/
end FF
namespace FF
open PySem PySem.Spec PyProof.Rows L2
variable [LT]
/-! ### what is told of a ring and of two points -/
end FF
namespace FF
open PySem PySem.Spec PyProof.Rows L2
variable [LT]
/-! ### t[i::m] of a tuple -/
section
variable {prog : Program} {w : World} {A : Around} {E : Value → Shared → Prop} {s : Shared}
end
section
variable {X : Cx}
end
end FF
namespace FF
open PySem PySem.Spec PyProof.Rows L2
variable [LT]
/-! ### fractions: thickness, strength, crowd -/
end FF
namespace FF
open PySem PySem.Spec PyProof.Rows L2
variable [LT]
/-! ### a match in the heap -/
theorem ix_nat {n t : Nat} (h : t < n) : ixN n (t : Int) = some t := by rw [ix_in (by omega) (by omega), Int.toNat_natCast]
end FF
namespace FF
open PySem PySem.Spec PyProof.Rows L2
variable [LT]
/-! ### trees that join all points, and the tie that bridges -/
/-! ### where the ties of a match are -/
end FF
namespace FF
open PySem PySem.Spec PyProof.Rows L2
variable [LT]
/-! ### a match is played -/
end FF
namespace FF
open PySem PySem.Spec PyProof.Rows L2
variable [LT]
/-! ### a match told exactly -/
/-! ### what was cut in turn -/
theorem nd_snoc {ns : List Int} {t : Int} (h : ns.Nodup) (ht : t ∉ ns) : (ns ++ [t]).Nodup := List.nodup_append.mpr ⟨h, List.nodup_cons.mpr ⟨List.not_mem_nil, .nil⟩, fun x hx y hy e => ht (by rw [List.mem_singleton] at hy; rw [← hy, ← e]; exact hx)⟩
end FF
namespace FF
open PySem PySem.Spec PyProof.Rows L2
variable [LT]
/-! ### a generator expression with two fors: a turn, the frame, the protocol -/
/-- the same context under another stack of calls -/
theorem Inv.around {Z : Cx} {A : Around} {pins : List (Addr × Obj)} {σ : L2.St} {H : Hp} {s : Shared} (I : L2.Inv Z pins σ H s) (h1 : A.handled = none) (h2 : A.frames = some Z.stack) : L2.Inv { Z with A := A } pins σ H s :=
  ⟨⟨I.ok.mod, I.ok.kind, I.ok.glob, I.ok.blt, I.ok.above, I.ok.inj, I.ok.has, I.ok.cab, fun _ => h1, h2, I.ok.stk, I.ok.exf, I.ok.bs, I.ok.bsz, I.ok.noex, I.ok.exfs, I.ok.funs, I.ok.frf⟩, I.os, I.bare, I.base, I.loc, I.cell, I.free, I.freeC, I.pin, I.hok, I.len⟩
section
variable {α : Type}
end
end FF
namespace FF
open PySem PySem.Spec PyProof.Rows L2
variable [LT]
section
variable {α : Type}
end
end FF
namespace FF
open PySem PySem.Spec PyProof.Rows L2
variable [LT]
section
variable {α : Type}
end
end FF
namespace FF
open PySem PySem.Spec PyProof.Rows L2
variable [LT]
section
variable {M : Model} {A : Around} {E : Value → Shared → Prop} {s : Shared}
end
section
variable {X : Cx} {pins : List (Addr × Obj)} {σ : L2.St} {H : Hp} {s : Shared}
section
variable {α : Type} {elt tg iter tg1 iter1 : Expr} {scope : Scope} {gpos : Pos} {N : List Str} {src : List (Option Nat)} {J : It} {G : Hp} {it : Addr} {fp : List Addr} {tn : Nat → Heap → Prop} {code : Value} {s4 t : Shared} {ga : Addr} {g : Nat} {gg : TG} {wi1 : TI} {gg1 : TG} {te : TE}
end
end
end FF
namespace FF
open PySem PySem.Spec PyProof.Rows L2
variable [LT]
section
variable {X : Cx} {pins : List (Addr × Obj)} {σ : L2.St} {elt tg iter tg1 iter1 : Expr} {scope : Scope} {gpos : Pos} {N : List Str} {src : List (Option Nat)} {J : It} {G : Hp} {it : Addr} {fp : List Addr} {tn : Nat → Heap → Prop} {code : Value} {s4 t : Shared} {ga : Addr} {g : Nat} {gg : TG} {wi1 : TI} {gg1 : TG} {te : TE}
end
section
variable {X : Cx} {c P : Addr} {elt tg iter tg1 iter1 : Expr} {scope : Scope} {gpos p pos : Pos} {N : List Str} {src : List (Option Nat)} {wi : TI} {g : TG} {wi1 : TI} {g1 : TG} {te : TE} {k : Nat} {vs vs1 : List Nat}
end
end FF
namespace FF
open PySem PySem.Spec PyProof.Rows L2
variable [LT]
/-! ### what lots join -/
end FF
namespace FF
open PySem PySem.Spec PyProof.Rows L2
variable [LT]
/-! ### tight lots with a point in common, the greatest tight lots -/
theorem four_len (p q : Int → Bool) : ∀ L : List Int, (L.filter fun x => p x || q x).length + (L.filter fun x => p x && q x).length = (L.filter p).length + (L.filter q).length
  | [] => rfl
  | x :: L => by
    have ih := four_len p q L
    rw [List.filter_cons, List.filter_cons, List.filter_cons, List.filter_cons]
    cases p x <;> cases q x <;> simp <;> omega
def orL (n : Int) (A B : List Int) : List Int := (upTo n).filter fun x => decide (x ∈ A) || decide (x ∈ B)
def andL (n : Int) (A B : List Int) : List Int := (upTo n).filter fun x => decide (x ∈ A) && decide (x ∈ B)
theorem Lot.filt {n : Int} {A : List Int} (h : Lot n A) : (upTo n).filter (fun x => decide (x ∈ A)) = A := sorted_one ((upTo_up n).filter _) h.up fun x => by
  rw [List.mem_filter, decide_eq_true_eq]
  exact ⟨fun z => z.2, fun z => ⟨upTo_mem.mpr (h.ok x z), z⟩⟩
theorem mem_orL {n : Int} {A B : List Int} (ha : Lot n A) (hb : Lot n B) {x : Int} : x ∈ orL n A B ↔ x ∈ A ∨ x ∈ B := by
  unfold orL
  rw [List.mem_filter, Bool.or_eq_true, decide_eq_true_eq, decide_eq_true_eq]
  exact ⟨fun z => z.2, fun z => ⟨upTo_mem.mpr (z.elim (ha.ok x) (hb.ok x)), z⟩⟩
theorem mem_andL {n : Int} {A B : List Int} (ha : Lot n A) {x : Int} : x ∈ andL n A B ↔ x ∈ A ∧ x ∈ B := by
  unfold andL
  rw [List.mem_filter, Bool.and_eq_true, decide_eq_true_eq, decide_eq_true_eq]
  exact ⟨fun z => z.2, fun z => ⟨upTo_mem.mpr (ha.ok x z.1), z⟩⟩
theorem or_and_inside {n : Int} {A B : List Int} (ha : Lot n A) (hb : Lot n B) : ∀ L : List (Int × Int), inside A L + inside B L ≤ inside (orL n A B) L + inside (andL n A B) L
  | [] => Nat.le_refl _
  | t :: L => by
    have ih := or_and_inside ha hb L
    rw [inside_cons, inside_cons, inside_cons, inside_cons]
    have e1 : decide (t.1 ∈ orL n A B) = (decide (t.1 ∈ A) || decide (t.1 ∈ B)) := by rw [← Bool.decide_or]; exact decide_eq_decide.mpr (mem_orL ha hb)
    have e2 : decide (t.2 ∈ orL n A B) = (decide (t.2 ∈ A) || decide (t.2 ∈ B)) := by rw [← Bool.decide_or]; exact decide_eq_decide.mpr (mem_orL ha hb)
    have e3 : decide (t.1 ∈ andL n A B) = (decide (t.1 ∈ A) && decide (t.1 ∈ B)) := by rw [← Bool.decide_and]; exact decide_eq_decide.mpr (mem_andL ha)
    have e4 : decide (t.2 ∈ andL n A B) = (decide (t.2 ∈ A) && decide (t.2 ∈ B)) := by rw [← Bool.decide_and]; exact decide_eq_decide.mpr (mem_andL ha)
    rw [e1, e2, e3, e4]
    generalize decide (t.1 ∈ A) = a1, decide (t.2 ∈ A) = a2, decide (t.1 ∈ B) = b1, decide (t.2 ∈ B) = b2
    cases a1 <;> cases a2 <;> cases b1 <;> cases b2 <;> simp <;> omega
section
variable {ts : List (Int × Int)} {n k : Int} {ws : List V}
theorem TightL.union {A B : List Int} (hL : LayK ts k ws) (a : TightL ts n k ws A) (b : TightL ts n k ws B) {x : Int} (xa : x ∈ A) (xb : x ∈ B) : TightL ts n k ws (orL n A B) := by
  have hl := four_len (fun x => decide (x ∈ A)) (fun x => decide (x ∈ B)) (upTo n)
  rw [a.lot.filt, b.lot.filt] at hl
  have hl : (orL n A B).length + (andL n A B).length = A.length + B.length := hl
  have xo : x ∈ orL n A B := (mem_orL a.lot b.lot).mpr (.inl xa)
  have xi : x ∈ andL n A B := (mem_andL a.lot).mpr ⟨xa, xb⟩
  have ne1 : orL n A B ≠ [] := fun e => by rw [e] at xo; cases xo
  have ne2 : andL n A B ≠ [] := fun e => by rw [e] at xi; cases xi
  have up1 : (orL n A B).Pairwise (· < ·) := (upTo_up n).filter _
  have up2 : (andL n A B).Pairwise (· < ·) := (upTo_up n).filter _
  refine ⟨⟨ne1, up1, fun y hy => mem_upTo (List.mem_filter.mp hy).1⟩, fun f f0 f1 => ?_⟩
  have h1 := inside_forest (hL.tree f) (rise_nd up1) ne1
  have h2 := inside_forest (hL.tree f) (rise_nd up2) ne2
  have h3 := or_and_inside a.lot b.lot (layerOf ts ws f)
  have h4 := a.tight f f0 f1
  have h5 := b.tight f f0 f1
  omega
/-- a tight lot holds both -/
def Tog (ts : List (Int × Int)) (n k : Int) (ws : List V) (x y : Int) : Prop := ∃ ls, TightL ts n k ws ls ∧ x ∈ ls ∧ y ∈ ls
theorem Tog.symm {x y : Int} (h : Tog ts n k ws x y) : Tog ts n k ws y x := let ⟨l, a, b, c⟩ := h; ⟨l, a, c, b⟩
theorem Tog.trans {x y z : Int} (hL : LayK ts k ws) (h : Tog ts n k ws x y) (g : Tog ts n k ws y z) : Tog ts n k ws x z := by
  obtain ⟨A, a, xa, ya⟩ := h
  obtain ⟨B, b, yb, zb⟩ := g
  exact ⟨orL n A B, a.union hL b ya yb, (mem_orL a.lot b.lot).mpr (.inl xa), (mem_orL a.lot b.lot).mpr (.inr zb)⟩
open Classical in
/-- all that a tight lot holds with x -/
noncomputable def cT (ts : List (Int × Int)) (n k : Int) (ws : List V) (x : Int) : List Int := (upTo n).filter fun y => decide (Tog ts n k ws x y)
end
end FF
namespace FF
open PySem PySem.Spec PyProof.Rows L2
variable [LT]
/-! ### the brims: the greatest tight lots in their order -/
section
variable {ts : List (Int × Int)} {k : Int} {ws : List V} {m : Nat}
end
end FF
namespace FF
open PySem PySem.Spec PyProof.Rows L2
variable [LT]
/-! ### sum(lists, []) -/
section
variable {X : Cx}
end
end FF
namespace FF
open PySem PySem.Spec PyProof.Rows L2
variable [LT]
/-! ### sorted of a list of lots, with its order -/
end FF
namespace FF
open PySem PySem.Spec PyProof.Rows L2
variable [LT]
/-! ### sorted of a tuple of lots; zip of a tuple and a tuple or a list -/
section
variable {prog : Program} {w : World} {A : Around} {E : Value → Shared → Prop} {s : Shared} {β : Type}
end
end FF
namespace FF
open PySem PySem.Spec PyProof.Rows L2
variable [LT]
/-! ### blocks with trees side by side -/
section
variable {ts : List (Int × Int)} {k : Int} {ws : List V} {m : Nat}
end
end FF
namespace FF
open PySem PySem.Spec PyProof.Rows L2
variable [LT]
/-! ### a call of a def that asks str -/
section
variable {X : Cx} {CX : CXT} {k : Nat} {f : Addr} {fd : FuncData} {ps : List Str} {sp : Sp} {dvs : List V} {ds : List Value} {E : XK} {x : Str} {p pos : Pos} {e : Expr} {es : List Expr} {t : TA}
end
/-! ### names and orders: rows that tell every number once -/
end FF
namespace FF
open PySem PySem.Spec PyProof.Rows L2
variable [LT]
/-! ### a web with its points renamed and its ties in another order -/
section
variable {n : Nat} {ns ord : List Int} {ts : List (Int × Int)}
/-! entries led -/
end
end FF
namespace FF
open PySem PySem.Spec PyProof.Rows L2
variable [LT]
/-! ### defs that are handed, within an except suite, what it caught -/
section
open HotX L2H
end
end FF
namespace FF
open PySem PySem.Spec PyProof.Rows L2
variable [LT]
/-! ### pieces of two webs side by side -/
end FF
namespace FF
open PySem PySem.Spec PyProof.Rows L2
variable [LT]
/-! ### tuples known or not known to the object; tuple(elt for ..) known to the object; tuple.index of data -/
def TQ (H : Hp) (a : Addr) (xs : List V) : Prop := H a = some (.tup xs) ∨ TF H a xs
theorem TQ.sq {K : PySem.W.Frag} {H : Hp} {a : Addr} {xs : List V} (h : TQ H a xs) : SqT K H a xs := h.elim sqT_of fun z => z.sq
theorem TQ.ke {H H' : Hp} {a : Addr} {xs : List V} (h : TQ H a xs) (k : Ke H H') : TQ H' a xs := h.elim (fun z => .inl (k.tup z)) fun z => .inr (z.ke k)
theorem TQ.dk {H H' : Hp} {p a : Addr} {xs : List V} (h : TQ H a xs) (k : Dk p H H') (d : Deck H p) : TQ H' a xs := h.elim (fun z => .inl (k.tup d z)) fun z => .inr (z.dk k d)
theorem TQ.ty {H : Hp} {a : Addr} {xs : List V} (h : TQ H a xs) : TyF H (.ref a) "tuple" := h.elim .tup .tf
section
variable {X : Cx} {K : PySem.W.Frag}
def rSlV (_ : PySem.W.Frag) : V → Option Int → Option Int → Hp → VK → Prop := fun x lo hi H Q => ∃ a xs, x = .ref a ∧ TQ H a xs ∧ ∀ p H', Ke H H' → TQ H' p (cutV xs lo hi) → (¬ (HT.sIx xs.length 0 lo = 0 ∧ HT.sIx xs.length xs.length hi = xs.length) → H' p = some (.tup (cutV xs lo hi))) → Q (.ref p) H'
theorem sl_tupV (h : X.K = K := by rfl) : L2.SlR X (rSlV K) := by
  subst h
  intro pins s σ H x v vl vu lo hi sl Q I rx hs pl pu hq
  obtain ⟨a, xs, e, hx, q⟩ := hq
  exact sl_tupA pins s σ H x v vl vu lo hi sl Q I rx hs pl pu ⟨a, xs, e, hx.sq, fun hw => q a H .refl (by rw [cut_whole hw]; exact hx) fun z => absurd hw z, fun _ p np => q p _ (Ke.new np) (.inl upd_same) fun _ => upd_same⟩
def rCatV (_ : PySem.W.Frag) : R2 := fun x y H Q => ∃ a b xs ys, x = .ref a ∧ y = .ref b ∧ TQ H a xs ∧ TQ H b ys ∧ xs.length + ys.length ≤ sizeLine ∧ ∀ p H', Ke H H' → TQ H' p (xs ++ ys) → (xs ≠ [] → ys ≠ [] → H' p = some (.tup (xs ++ ys))) → Q (.ref p) H'
theorem catV (h : X.K = K := by rfl) : OpR X (binaryOp .Add) (rCatV K) := by
  subst h
  intro pins s σ H x y v u Q I rx ry hq
  obtain ⟨a, b, xs, ys, e1, e2, hx, hy, hl, q⟩ := hq
  refine op_catA pins s σ H x y v u Q I rx ry ⟨a, b, xs, ys, e1, e2, hx.sq, hy.sq, hl, fun z => q b H .refl ?_ fun h => absurd z h, fun _ z => q a H .refl ?_ fun _ h => absurd z h, fun _ _ p np => q p _ (Ke.new np) (.inl upd_same) fun _ _ => upd_same⟩
  · rw [z, List.nil_append]
    exact hy
  · rw [z, List.append_nil]
    exact hx
end
section
variable {X : Cx} {K : PySem.W.Frag}
open PyProof
end
section
variable {X : Cx} {c P : Addr} {elt tg iter : Expr} {ifs : List Expr} {scope : Scope} {gpos p pos : Pos} {N : List Str} {src : List (Option Nat)} {wi : TI} {g : TG} {tt : TT} {te : TE} {k : Nat} {vs : List Nat}
end
theorem TQ.new {H : Hp} {p a : Addr} {o : HO} {xs : List V} (h : TQ H a xs) (k : H p = none) : TQ (upd H p o) a xs := h.ke (Ke.new k)
end FF
namespace FF
open PySem PySem.Spec PyProof.Rows L2
variable [LT]
/-! ### a generator expression with two fors: a turn, the frame, the protocol -/
theorem compTurnZ_out (elt t0 i0 t1 i1 : Expr) (fs0 : List Expr) (scope : Scope) (pos : Pos) (it acc : Value) (env : Env) :
    compTurn (.GeneratorExp elt [⟨t0, i0, fs0, 0⟩, ⟨t1, i1, [], 0⟩] scope pos) 0 it acc env = (do
      standAt i0.pos
      match ← pyNext it with
      | none => pure (.done .next)
      | some v =>
        letOwnedTupleGo t0 it v
        assign t0 env v
        let ok ← forIn fs0 true fun c r =>
          if r = true then do
            let ok ← PySem.isTrue c env (eval c env)
            pure (ForInStep.yield ok)
          else pure (ForInStep.yield r)
        if ok = true then do
          let x ← eval i1 env
          standAt i1.pos
          let x ← foldedSetIterable i1 env x
          let it1 ← holding [x] (pyIter x)
          let _ ← runOwn (.compStart (.GeneratorExp elt [⟨t0, i0, fs0, 0⟩, ⟨t1, i1, [], 0⟩] scope pos) 1 it1 acc env) env
          again (.compLoop (.GeneratorExp elt [⟨t0, i0, fs0, 0⟩, ⟨t1, i1, [], 0⟩] scope pos) 0 it acc env)
        else again (.compLoop (.GeneratorExp elt [⟨t0, i0, fs0, 0⟩, ⟨t1, i1, [], 0⟩] scope pos) 0 it acc env)) := by rfl
theorem compTurnZ_in (elt t0 i0 t1 i1 : Expr) (fs0 : List Expr) (scope : Scope) (pos : Pos) (it acc : Value) (env : Env) :
    compTurn (.GeneratorExp elt [⟨t0, i0, fs0, 0⟩, ⟨t1, i1, [], 0⟩] scope pos) 1 it acc env = (do
      standAt i1.pos
      match ← pyNext it with
      | none => pure (.done .next)
      | some v =>
        letOwnedTupleGo t1 it v
        assign t1 env v
        (do let v ← eval elt env; standAt elt.pos; let _ ← yieldOut env v)
        again (.compLoop (.GeneratorExp elt [⟨t0, i0, fs0, 0⟩, ⟨t1, i1, [], 0⟩] scope pos) 1 it acc env)) := by rfl
/-- the same context under another stack of calls -/
theorem Inv.aroundZ {Z : Cx} {A : Around} {pins : List (Addr × Obj)} {σ : L2.St} {H : Hp} {s : Shared} (I : L2.Inv Z pins σ H s) (h1 : A.handled = none) (h2 : A.frames = some Z.stack) : L2.Inv { Z with A := A } pins σ H s :=
  ⟨⟨I.ok.mod, I.ok.kind, I.ok.glob, I.ok.blt, I.ok.above, I.ok.inj, I.ok.has, I.ok.cab, fun _ => h1, h2, I.ok.stk, I.ok.exf, I.ok.bs, I.ok.bsz, I.ok.noex, I.ok.exfs, I.ok.funs, I.ok.frf⟩, I.os, I.bare, I.base, I.loc, I.cell, I.free, I.freeC, I.pin, I.hok, I.len⟩
theorem over3_frames {A : Around} {elt t0 i0 t1 i1 : Expr} {fs0 : List Expr} {scope : Scope} {pos p : Pos} {it it1 : Value} {env : Env} {k : Result → Sem Fin} {l : List Value} {S : List Env} (h : A.frames = some S) :
    (A.over (.compLoop (.GeneratorExp elt [⟨t0, i0, fs0, 0⟩, ⟨t1, i1, [], 0⟩] scope pos) 1 it1 .none env) [.ret k none false l (.compLoop (.GeneratorExp elt [⟨t0, i0, fs0, 0⟩, ⟨t1, i1, [], 0⟩] scope pos) 0 it .none env) p []]).frames = some (env :: S) := by
  unfold Around.over
  simp only [h]
  rfl
theorem over3_hd {A : Around} {elt t0 i0 t1 i1 : Expr} {fs0 : List Expr} {scope : Scope} {pos p : Pos} {it it1 : Value} {env : Env} {k : Result → Sem Fin} {l : List Value} (h : A.handled = none) :
    (A.over (.compLoop (.GeneratorExp elt [⟨t0, i0, fs0, 0⟩, ⟨t1, i1, [], 0⟩] scope pos) 1 it1 .none env) [.ret k none false l (.compLoop (.GeneratorExp elt [⟨t0, i0, fs0, 0⟩, ⟨t1, i1, [], 0⟩] scope pos) 0 it .none env) p []]).handled = none := by
  unfold Around.over
  simp only [h]
  rfl
theorem over3_room {A : Around} {elt t0 i0 t1 i1 : Expr} {fs0 : List Expr} {scope : Scope} {pos p : Pos} {it it1 : Value} {env : Env} {k : Result → Sem Fin} {l : List Value} {j : Nat} (r : Room (j + 1) A) :
    Room j (A.over (.compLoop (.GeneratorExp elt [⟨t0, i0, fs0, 0⟩, ⟨t1, i1, [], 0⟩] scope pos) 1 it1 .none env) [.ret k none false l (.compLoop (.GeneratorExp elt [⟨t0, i0, fs0, 0⟩, ⟨t1, i1, [], 0⟩] scope pos) 0 it .none env) p []]) :=
  ⟨over3_hd r.hd, by have := r.dp; show A.depth + (0 + 1 + 0) + 0 + 3 * j + 5 < _; omega, by have := r.un; show A.units + (0 + 3 + 0) + 0 + 16 * j + 200 < _; omega⟩
section
variable {α : Type}
structure GzD (α : Type) where
  Z : Cx
  elt : Expr
  tg : Expr
  iter : Expr
  ifs : List Expr
  tg1 : Expr
  iter1 : Expr
  scope : Scope
  pos : Pos
  it : Addr
  fp : List Addr
  tn : Nat → Heap → Prop
  J : It
  prot : List Addr
  Acc : α → Heap → Prop
  W : Nat → Nat → α → Hp → Prop
  Yl : α → V → Hp → (α → Hp → Prop) → Prop
  Dn : α → Hp → Prop
  σ0 : L2.St
  vs : List Nat
  vs1 : List Nat
abbrev GzD.expr (D : GzD α) : Expr := .GeneratorExp D.elt [⟨D.tg, D.iter, D.ifs, 0⟩, ⟨D.tg1, D.iter1, [], 0⟩] D.scope D.pos
abbrev GzD.loop (D : GzD α) : Code := .compLoop D.expr 0 (.ref D.it) .none D.Z.env
abbrev GzD.begin (D : GzD α) : Code := .compStart D.expr 0 (.ref D.it) .none D.Z.env
abbrev GzD.loop1 (D : GzD α) (it1 : Addr) : Code := .compLoop D.expr 1 (.ref it1) .none D.Z.env
def GzD.Inv (D : GzD α) (fx : List Addr) (σ : L2.St) (pins : List (Addr × Obj)) (H : Hp) (s : Shared) : Prop :=
  pins.map (·.1) = D.prot ∧ L2.Inv D.Z pins σ H s ∧ ∀ b ∈ fx, FpOk D.Z pins H b
def GzD.Y (D : GzD α) : Protocol := fun _ s₀ v s kap => ∃ (fx : List Addr) (tx : Heap → Prop) (σ : L2.St) (a : α) (pins : List (Addr × Obj)) (H : Hp) (x : V) (Nx : α → Hp → Prop),
  RelV x v ∧ s₀.gens.size ≤ s.gens.size ∧ D.Acc a s₀.heap ∧ (∀ p ∈ pins, s₀.heap.get? p.1 = some p.2) ∧ D.Inv fx σ pins H s ∧ (∀ h h', tx h → (∀ b ∈ fx, ∀ o, h.get? b = some o → h'.get? b = some o) → tx h') ∧ tx s.heap ∧ D.Yl a x H Nx ∧
  ∀ (s' : Shared) (pins' : List (Addr × Obj)) (H' : Hp) (a' : α), D.Inv fx σ pins' H' s' → tx s'.heap → D.Acc a' s'.heap → Nx a' H' → kap (.send .none) s'
def GzD.P (D : GzD α) : Nat → Shared → Shared → Prop := fun _ s₀ s => ∃ (a : α) (pins : List (Addr × Obj)) (H : Hp),
  D.Acc a s₀.heap ∧ (∀ p ∈ pins, s₀.heap.get? p.1 = some p.2) ∧ D.Inv [] D.σ0 pins H s ∧ D.Dn a H
abbrev GzD.R (D : GzD α) : GenEnd := fun n s₀ r s => r = .ok .next ∧ D.P n s₀ s
/-- what an inner turn asks -/
def GzIn (D : GzD α) (g1 : TG) (te : TE) (i : Nat) (σ1 : L2.St) (J1 : It) (W1 : Nat → Nat → α → Hp → Prop) : Prop := ∀ j k a H, W1 j k a H → (J1.stop j H ∧ ∃ m', m' ≤ k ∧ D.W (i + 1) m' a H) ∨ (J1.go j H ∧ ∃ Nx1 : α → Hp → Prop, (∀ a' H', Nx1 a' H' → ∃ k', k' < k ∧ W1 (j + 1) k' a' H') ∧
  ∀ x H1, J1.yld j H x H1 → g1 x σ1 H1 fun σ3 H3 => wipe σ3 D.vs1 = σ1 ∧ te σ3 H3 fun y H4 => D.Yl a y H4 Nx1)
structure GzD.Ok (D : GzD α) (k : Nat) (g : TG) (tt : TT) (wi1 : TI) (g1 : TG) (te : TE) : Prop where
  calm : D.Z.calm = true
  xe : D.Z.xe = fun _ _ => False
  co : D.Z.env.scope.isCoroutine = false
  turn : Turn D.Z.prog D.Z.w D.Z.K D.tg D.J D.fp D.it D.tn
  pg : PG D.Z D.tg g
  pt : L2.PTs D.Z D.ifs tt
  pi1 : PI D.Z D.tg1 D.iter1 wi1
  hs1 : ∀ env x, foldedSetIterable D.iter1 env x = pure x
  pg1 : ∀ A : Around, PG { D.Z with A := A } D.tg1 g1
  pe : ∀ A : Around, Room k A → PE { D.Z with A := A } D.elt te
  vsub : ∀ i ∈ D.vs1, i ∈ D.vs
  step : ∀ i m a H, D.W i m a H → (D.J.stop i H ∧ D.Dn a H) ∨ (D.J.go i H ∧ ∀ x H1, D.J.yld i H x H1 → g x D.σ0 H1 fun σ2 H2 => wipe σ2 D.vs = D.σ0 ∧ tt σ2 H2 fun b H3 => if b = true then wi1 σ2 H3 fun J1 H4 =>
    ∃ W1 : Nat → Nat → α → Hp → Prop, (∃ m1, m1 < m ∧ W1 0 m1 a H4) ∧ GzIn D g1 te i (wipe σ2 D.vs1) J1 W1
    else ∃ m', m' < m ∧ D.W (i + 1) m' a H3)
theorem fpok_lessZ {Z : Cx} {pins pl : List (Addr × Obj)} {H : Hp} {b : Addr} (h : FpOk Z (pins ++ pl) H b) : FpOk Z pins H b :=
  ⟨h.1, h.2.1, h.2.2.1, h.2.2.2.1, h.2.2.2.2.1, fun p hp => h.2.2.2.2.2 p (by rw [← List.append_assoc]; exact List.mem_append_left _ hp)⟩
theorem fpok_moreZ {Z : Cx} {pins pl : List (Addr × Obj)} {H : Hp} {b : Addr} (h : FpOk Z pins H b) (hn : ∀ p ∈ pl, p.1 ≠ b) : FpOk Z (pins ++ pl) H b :=
  ⟨h.1, h.2.1, h.2.2.1, h.2.2.2.1, h.2.2.2.2.1, fun p hp => by
    rw [← List.append_assoc] at hp
    exact (List.mem_append.mp hp).elim (h.2.2.2.2.2 p) (hn p)⟩
theorem gz_in {D : GzD α} {k0 : Nat} {g : TG} {tt : TT} {wi1 : TI} {g1 : TG} {te : TE} (ok : D.Ok k0 g tt wi1 g1 te) {A : Around} {S : List Env} (hA : A.over D.loop [] = D.Z.A) (hS : A.frames = some S) (hZ : D.Z.stack = D.Z.env :: S) (room : Room (k0 + 1) A)
    {i m : Nat} {σ1 : L2.St} {J1 : It} {W1 : Nat → Nat → α → Hp → Prop} {fp1 : List Addr} {it1 : Addr} {tn1 : Nat → Heap → Prop} {kk : Result → Sem Fin} {l : List Value} {p : Pos}
    (T1 : Turn D.Z.prog D.Z.w D.Z.K D.tg1 J1 fp1 it1 tn1) (hdis : ∀ b ∈ fp1, b ∉ D.fp) (hstep : GzIn D g1 te i σ1 J1 W1)
    (after : ∀ (k n m' : Nat) (s₀ s : Shared) (pins : List (Addr × Obj)) (H : Hp) (a : α), k < m → k < n → m' ≤ k → s₀.gens.size ≤ s.gens.size → D.Inv D.fp σ1 pins H s → D.tn (i + 1) s.heap → D.Acc a s₀.heap → (∀ p ∈ pins, s₀.heap.get? p.1 = some p.2) → D.W (i + 1) m' a H →
      Seg (model D.Z.prog D.Z.w) A D.R D.Y n s₀ D.loop (kk (.ok .next)) [] s) :
    ∀ (k j n : Nat) (s₀ s : Shared) (pins : List (Addr × Obj)) (H : Hp) (a : α), k < m → k < n → s₀.gens.size ≤ s.gens.size → D.Inv (D.fp ++ fp1) σ1 pins H s → D.tn (i + 1) s.heap → tn1 j s.heap → D.Acc a s₀.heap → (∀ p ∈ pins, s₀.heap.get? p.1 = some p.2) → W1 j k a H →
      Seg (model D.Z.prog D.Z.w) A D.R D.Y n s₀ (D.loop1 it1) ((model D.Z.prog D.Z.w).den (D.loop1 it1)) [.ret kk none false l D.loop p []] s := by
  intro k
  induction k using Nat.strongRecOn with
  | _ k ih =>
    intro j n s₀ s pins H a hkm hkn hz GI htn htn1 hacc hp0 hw
    obtain ⟨hpr, I0, hf⟩ := GI
    have T := ok.turn
    obtain ⟨A1, eA1⟩ : ∃ A1, A1 = A.over (D.loop1 it1) [.ret kk none false l D.loop p []] := ⟨_, rfl⟩
    have hA1h : A1.handled = none := by rw [eA1]; exact over3_hd room.hd
    have hA1f : A1.frames = some D.Z.stack := by rw [eA1, hZ]; exact over3_frames hS
    have hA1r : Room k0 A1 := by rw [eA1]; exact over3_room room
    have I : L2.Inv { D.Z with A := A1 } pins σ1 H s := Inv.aroundZ I0 hA1h hA1f
    have hf0 : ∀ b ∈ D.fp, FpOk { D.Z with A := A1 } pins H b := fun b hb => hf b (List.mem_append_left _ hb)
    have hf1 : ∀ b ∈ fp1, FpOk { D.Z with A := A1 } pins H b := fun b hb => hf b (List.mem_append_right _ hb)
    have Ip := I.pinned hf0 (T.obj _ _ htn)
    have hf1p : ∀ b ∈ fp1, FpOk { D.Z with A := A1 } (pins ++ pinsAt D.fp s.heap) H b := fun b hb => fpok_moreZ (hf1 b hb) fun q hq e => hdis b hb (by rw [← e]; exact (of_pinsAt hq).1)
    have bk : ∀ {σ : L2.St} {H' : Hp} {s' : Shared}, L2.Inv { D.Z with A := A1 } pins σ H' s' → L2.Inv D.Z pins σ H' s' := fun {σ H' s'} J => Inv.aroundZ (Z := { D.Z with A := A1 }) (A := D.Z.A) J (I0.ok.hd ok.calm) I0.ok.frames
    show Seg _ A _ _ _ s₀ _ ((compTurn D.expr 1 (.ref it1) .none D.Z.env).onRaise _) _ s
    rw [compTurnZ_in, Sem.onRaise_eq_wrap]
    refine seg_bind_wrap (wpAny_standAt ?_)
    rcases hstep j k a H hw with ⟨stop, m', hm', hw'⟩ | ⟨go, Nx1, hNx, st⟩
    · refine seg_bind_wrap ?_
      rw [← eA1]
      refine GenW.wpAny_gsz hz (thnF (T1.done { D.Z with A := A1 } rfl rfl rfl ok.calm j _ s σ1 H (fun _ _ => False) Ip hf1p htn1 stop) fun r t ⟨hr, J⟩ z0 => ?_)
      subst hr
      have pin' : ∀ b ∈ D.fp, ∀ o, s.heap.get? b = some o → t.heap.get? b = some o := fun b hb o e => (J.pin (b, o) (List.mem_append_right _ (List.mem_append_right _ (mem_pinsAt hb e)))).1
      exact seg_leaf (.ok .next) (after k n m' s₀ t pins H a hkm hkn hm' z0 ⟨hpr, bk J.unpinned, fun b hb => hf b (List.mem_append_left _ hb)⟩ (T.keep _ _ _ htn pin') hacc hp0 hw')
    · refine seg_bind_wrap ?_
      rw [← eA1]
      refine GenW.wpAny_gsz hz (thnF (T1.item { D.Z with A := A1 } rfl rfl rfl ok.calm j _ s σ1 H (fun _ _ => False) Ip hf1p htn1 go) fun r t ⟨u, hr, h1⟩ z0 => ?_)
      subst hr
      refine seg_bind_wrap ?_
      rw [← eA1]
      refine GenW.wpAny_gsz z0 (thnF h1 fun _ t1 ⟨x, H1, I1, r1, y1, tn1', n1⟩ z1 => ?_)
      have f1 : ∀ b ∈ fp1, FpOk { D.Z with A := A1 } (pins ++ pinsAt D.fp s.heap) H1 b := fun b hb => ⟨n1 b hb, (hf1p b hb).2⟩
      have I1p := I1.pinned f1 (T1.obj _ _ tn1')
      have hpg := (ok.pg1 A1).run _ t1 σ1 H1 x u _ I1p r1 (st x H1 y1)
      rw [show ({ D.Z with A := A1 } : Cx).xe = fun _ _ => False from ok.xe] at hpg
      refine seg_bind_wrap ?_
      rw [← eA1]
      refine GenW.wpAny_gsz z1 (thnF hpg fun _ t2 ⟨σ3, H2, I2, w2, q2⟩ z2 => ?_)
      have hy : ∀ v, yieldOut D.Z.env v = yieldValue v := fun v => by simp only [yieldOut, ok.co, Bool.false_eq_true, if_false]
      simp only [hy]
      rw [Sem.bind_eq_wrap', Sem.bind_eq_wrap', Sem.wrap_wrap, Sem.wrap_wrap]
      have hpe := (ok.pe A1 hA1r).run _ t2 σ3 H2 _ I2 q2
      rw [show ({ D.Z with A := A1 } : Cx).xe = fun _ _ => False from ok.xe] at hpe
      refine seg_wrap ?_
      rw [← eA1]
      refine GenW.wpAny_gsz z2 (thnF hpe fun y t4 ⟨z, H4, I4, r4, q4⟩ z4 => ?_)
      obtain ⟨n', rfl⟩ : ∃ n', n = n' + 1 := ⟨n - 1, by omega⟩
      have pin0 : ∀ b ∈ D.fp, ∀ o, s.heap.get? b = some o → t4.heap.get? b = some o ∧ H4 b = none := fun b hb o e =>
        let z := I4.pin (b, o) (List.mem_append_right _ (List.mem_append_left _ (List.mem_append_right _ (mem_pinsAt hb e))))
        ⟨z.1, z.2.1⟩
      have pin1 : ∀ b ∈ fp1, ∀ o, t1.heap.get? b = some o → t4.heap.get? b = some o ∧ H4 b = none := fun b hb o e =>
        let z := I4.pin (b, o) (List.mem_append_right _ (List.mem_append_right _ (mem_pinsAt hb e)))
        ⟨z.1, z.2.1⟩
      have tnA : D.tn (i + 1) t4.heap := T.keep _ _ _ htn fun b hb o e => (pin0 b hb o e).1
      have tnB : tn1 (j + 1) t4.heap := T1.keep _ _ _ tn1' fun b hb o e => (pin1 b hb o e).1
      have I5 : L2.Inv D.Z pins σ1 H4 t4 := bk (I4.unpinned.unpinned.weak (by rw [← w2, wipe_length]) fun j v e => by rw [← w2] at e; exact (wipe_some e).1)
      have f5 : ∀ b ∈ D.fp ++ fp1, FpOk D.Z pins H4 b := fun b hb => by
        rcases List.mem_append.mp hb with hb | hb
        · obtain ⟨o, e, _⟩ := T.obj _ _ htn b hb
          exact ⟨(pin0 b hb o e).2, (hf b (List.mem_append_left _ hb)).2⟩
        · obtain ⟨o, e, _⟩ := T1.obj _ _ tn1' b hb
          exact ⟨(pin1 b hb o e).2, (hf b (List.mem_append_right _ hb)).2⟩
      refine seg_at (seg_yield rfl rfl rfl ⟨D.fp ++ fp1, fun h => D.tn (i + 1) h ∧ tn1 (j + 1) h, σ1, a, pins, H4, z, Nx1, r4, z4, hacc, hp0, ⟨hpr, I5, f5⟩, fun h h' q kp => ⟨T.keep _ _ _ q.1 fun b hb => kp b (List.mem_append_left _ hb), T1.keep _ _ _ q.2 fun b hb => kp b (List.mem_append_right _ hb)⟩, ⟨tnA, tnB⟩, q4, fun t' pins' H' a' G' tn' hacc' nx => ?_⟩)
      obtain ⟨k', hk', w'⟩ := hNx a' H' nx
      exact seg_again rfl (ih k' hk' (j + 1) n' t' t' pins' H' a' (by omega) (by omega) (Nat.le_refl _) G' tn'.1 tn'.2 hacc' (fun p hp => (G'.2.1.pin p (List.mem_append_right _ hp)).1) w')
end
end FF
namespace FF
open PySem PySem.Spec PyProof.Rows L2
variable [LT]
section
variable {α : Type}
theorem gz_start1 {D : GzD α} {A : Around} {it1 : Addr} {n : Nat} {s₀ s : Shared} {fs : List Frame} (hself : ∀ {A' : Around} {Q : Value → Shared → Prop} {E : Value → Shared → Prop}, Q (.ref it1) s → wpAny (model D.Z.prog D.Z.w) A' (pyIter (.ref it1)) Q E s)
    (loop1 : Seg (model D.Z.prog D.Z.w) A D.R D.Y n s₀ (D.loop1 it1) ((model D.Z.prog D.Z.w).den (D.loop1 it1)) fs s) :
    Seg (model D.Z.prog D.Z.w) A D.R D.Y n s₀ (.compStart D.expr 1 (.ref it1) .none D.Z.env) ((model D.Z.prog D.Z.w).den (.compStart D.expr 1 (.ref it1) .none D.Z.env)) fs s := by
  show Seg _ A _ _ _ s₀ _ ((compStart D.expr 1 (.ref it1) .none D.Z.env).onRaise _) _ s
  unfold compStart
  rw [Sem.onRaise_eq_wrap]
  show Seg _ A _ _ _ s₀ _ ((ask >>= _).wrap _ _ _ _) _ s
  refine seg_bind_wrap (wpAny_askSetting ?_)
  split
  · exact seg_again rfl loop1
  · first
      | exact seg_bind_wrap (wpAny_rule (seg_bind_wrap (wpAny_standAt (seg_bind_wrap (hself (seg_again rfl loop1))))))
      | (refine seg_bind_wrap (wpAny_rule ?_); show Seg _ A _ _ _ s₀ _ ((standAt D.iter1.pos >>= _).wrap _ _ _ _) _ s; exact seg_bind_wrap (wpAny_standAt (seg_bind_wrap (hself (seg_again rfl loop1)))))
theorem gz_seg {D : GzD α} {k0 : Nat} {g : TG} {tt : TT} {wi1 : TI} {g1 : TG} {te : TE} (ok : D.Ok k0 g tt wi1 g1 te) {A : Around} {S : List Env} (hA : A.over D.loop [] = D.Z.A) (hS : A.frames = some S) (hZ : D.Z.stack = D.Z.env :: S) (room : Room (k0 + 1) A) :
    ∀ (m i n : Nat) (s₀ s : Shared) (pins : List (Addr × Obj)) (H : Hp) (a : α), m < n → s₀.gens.size ≤ s.gens.size → D.Inv D.fp D.σ0 pins H s → D.tn i s.heap → D.Acc a s₀.heap → (∀ p ∈ pins, s₀.heap.get? p.1 = some p.2) → D.W i m a H →
      Seg (model D.Z.prog D.Z.w) A D.R D.Y n s₀ D.loop ((model D.Z.prog D.Z.w).den D.loop) [] s := by
  intro m
  induction m using Nat.strongRecOn with
  | _ m ih =>
    intro i n s₀ s pins H a hmn hz GI ht hacc hp0 hw
    obtain ⟨hpr, I, hf⟩ := GI
    have T := ok.turn
    show Seg _ A _ _ _ s₀ _ ((compTurn D.expr 0 (.ref D.it) .none D.Z.env).onRaise (leaving D.Z.env)) [] s
    rw [compTurnZ_out, Sem.onRaise_eq_wrap]
    refine seg_bind_wrap (wpAny_standAt ?_)
    rcases ok.step i m a H hw with ⟨stop, dn⟩ | ⟨go, st⟩
    · refine seg_bind_wrap ?_
      rw [hA]
      refine thnF (T.done D.Z rfl rfl rfl ok.calm i pins s D.σ0 H (fun _ _ => False) I hf ht stop) fun r t ⟨hr, J⟩ => ?_
      subst hr
      exact seg_end (.ok .next) ⟨rfl, a, pins, H, hacc, hp0, ⟨hpr, J, fun _ z => nomatch z⟩, dn⟩
    · refine seg_bind_wrap ?_
      rw [hA]
      refine GenW.wpAny_gsz hz (thnF (T.item D.Z rfl rfl rfl ok.calm i pins s D.σ0 H (fun _ _ => False) I hf ht go) fun r t ⟨u, hr, h1⟩ z0 => ?_)
      subst hr
      refine seg_bind_wrap ?_
      rw [hA]
      refine GenW.wpAny_gsz z0 (thnF h1 fun _ t1 ⟨x, H1, I1, r1, y1, tn1, n1⟩ z1 => ?_)
      have f1 : ∀ b ∈ D.fp, FpOk D.Z pins H1 b := fun b hb => ⟨n1 b hb, (hf b hb).2⟩
      have I1p := I1.pinned f1 (T.obj _ _ tn1)
      have hpg := ok.pg.run _ t1 D.σ0 H1 x u _ I1p r1 (st x H1 y1)
      rw [ok.xe] at hpg
      refine seg_bind_wrap ?_
      rw [hA]
      refine GenW.wpAny_gsz z1 (thnF hpg fun _ t2 ⟨σ2, H2, I2, w2, q2⟩ z2 => ?_)
      have hpt := ok.pt.run _ t2 σ2 H2 _ I2 q2
      rw [ok.xe] at hpt
      refine seg_bind_wrap ?_
      rw [hA]
      refine GenW.wpAny_gsz z2 (thnF hpt fun b t3' ⟨H3, I3, q3⟩ z2' => ?_)
      cases b with
      | false =>
        simp only [Bool.false_eq_true, if_false] at q3 ⊢
        obtain ⟨m', hm', w'⟩ := q3
        have pin' : ∀ b ∈ D.fp, ∀ o, t1.heap.get? b = some o → t3'.heap.get? b = some o ∧ H3 b = none := fun b hb o e =>
          let z := I3.pin (b, o) (List.mem_append_right _ (List.mem_append_right _ (mem_pinsAt hb e)))
          ⟨z.1, z.2.1⟩
        have hl : D.σ0.length = σ2.length := by rw [← w2, wipe_length]
        exact seg_again rfl (ih m' hm' (i + 1) n s₀ t3' pins H3 a (by omega) z2' ⟨hpr, I3.unpinned.weak hl (fun j v e => by rw [← w2] at e; exact (wipe_some e).1), fun b hb => by
          obtain ⟨o, e, _⟩ := T.obj _ _ tn1 b hb
          exact ⟨(pin' b hb o e).2, (hf b hb).2⟩⟩ (T.keep _ _ _ tn1 fun b hb o e => (pin' b hb o e).1) hacc hp0 w')
      | true =>
      simp only [if_true] at q3 ⊢
      have hpi := ok.pi1.run _ t3' σ2 H3 _ I3 q3
      rw [ok.xe] at hpi
      refine seg_bind_wrap ?_
      rw [hA]
      refine GenW.wpAny_gsz z2' (thnF hpi fun v t3 hv z3 => ?_)
      refine seg_bind_wrap (wpAny_standAt ?_)
      refine seg_bind_wrap (wpAny_of_eq (ok.hs1 _ _) ?_)
      refine seg_bind_wrap (wpAny_holding ?_)
      rw [hA]
      refine GenW.wpAny_gsz z3 (thnF hv fun itv t4 ⟨it1, fp1, tn1', J1, H4, e4, I4, T1, st4, f4, q4⟩ z4 => ?_)
      subst e4
      obtain ⟨W1, ⟨m1, hm1, w1⟩, hstep⟩ := q4
      have pin' : ∀ b ∈ D.fp, ∀ o, t1.heap.get? b = some o → t4.heap.get? b = some o ∧ H4 b = none := fun b hb o e =>
        let z := I4.pin (b, o) (List.mem_append_right _ (List.mem_append_right _ (mem_pinsAt hb e)))
        ⟨z.1, z.2.1⟩
      have tnA : D.tn (i + 1) t4.heap := T.keep _ _ _ tn1 fun b hb o e => (pin' b hb o e).1
      have hdis : ∀ b ∈ fp1, b ∉ D.fp := fun b hb hb2 => by
        obtain ⟨o, e, _⟩ := T.obj _ _ tn1 b hb2
        exact (f4 b hb).2.2.2.2.2 (b, o) (List.mem_append_right _ (List.mem_append_right _ (mem_pinsAt hb2 e))) rfl
      have G5 : D.Inv (D.fp ++ fp1) (wipe σ2 D.vs1) pins H4 t4 := ⟨hpr, I4.unpinned.weak (wipe_length _ _) fun j v e => (wipe_some e).1, fun b hb => by
        rcases List.mem_append.mp hb with hb | hb
        · obtain ⟨o, e, _⟩ := T.obj _ _ tn1 b hb
          exact ⟨(pin' b hb o e).2, (hf b hb).2⟩
        · exact fpok_lessZ (f4 b hb)⟩
      have hl : D.σ0.length = (wipe σ2 D.vs1).length := by rw [← w2, wipe_length, wipe_length]
      have hk : ∀ (j : Nat) v, D.σ0[j]? = some (some v) → (wipe σ2 D.vs1)[j]? = some (some v) := fun j v e => by
        rw [← w2] at e
        obtain ⟨e1, e2⟩ := wipe_some e
        rw [wipe_out fun z => e2 (ok.vsub j z)]
        exact e1
      refine seg_call (c' := .compStart D.expr 1 (.ref it1) .none D.Z.env) (h := none) (g := false) fun p => ?_
      refine gz_start1 (fun {A' Q E} => T1.self A' 0 t4 Q E st4) ?_
      refine gz_in ok hA hS hZ room (m := m) (i := i) (p := p) T1 hdis hstep (fun k n m' s₀ s pins H a hkm hkn hm' hz G tn' hacc hp hw => ?_) m1 0 n s₀ t4 pins H4 a hm1 (by omega) z4 G5 tnA st4 hacc hp0 w1
      exact seg_again rfl (ih m' (by omega) (i + 1) n s₀ s pins H a (by omega) hz ⟨G.1, G.2.1.weak hl hk, G.2.2⟩ tn' hacc hp hw)
theorem gz_begin {D : GzD α} {k0 : Nat} {g : TG} {tt : TT} {wi1 : TI} {g1 : TG} {te : TE} (ok : D.Ok k0 g tt wi1 g1 te) {A : Around} {S : List Env} (hA : A.over D.loop [] = D.Z.A) (hS : A.frames = some S) (hZ : D.Z.stack = D.Z.env :: S) (room : Room (k0 + 1) A) {m n : Nat} {s : Shared} {pins : List (Addr × Obj)} {H : Hp} {a : α}
    (hmn : m < n) (G : D.Inv D.fp D.σ0 pins H s) (ht : D.tn 0 s.heap) (hacc : D.Acc a s.heap) (hw : D.W 0 m a H) :
    Seg (model D.Z.prog D.Z.w) A D.R D.Y n s D.begin ((model D.Z.prog D.Z.w).den D.begin) [] s := by
  have loop := gz_seg ok hA hS hZ room m 0 n s s pins H a hmn (Nat.le_refl _) G ht hacc (fun p hp => (G.2.1.pin p (List.mem_append_right _ hp)).1) hw
  show Seg _ A _ _ _ s _ ((compStart D.expr 0 (.ref D.it) .none D.Z.env).onRaise (leaving D.Z.env)) [] s
  unfold compStart
  rw [Sem.onRaise_eq_wrap]
  show Seg _ A _ _ _ s _ ((ask >>= _).wrap _ _ _ _) [] s
  refine seg_bind_wrap (wpAny_askSetting ?_)
  split
  · exact seg_again rfl loop
  · first
      | exact seg_bind_wrap (wpAny_rule (seg_bind_wrap (wpAny_standAt (seg_bind_wrap (ok.turn.self _ 0 s _ _ ht (seg_again rfl loop))))))
      | (refine seg_bind_wrap (wpAny_rule ?_); show Seg _ A _ _ _ s _ ((standAt D.iter.pos >>= _).wrap _ _ _ _) [] s; exact seg_bind_wrap (wpAny_standAt (seg_bind_wrap (ok.turn.self _ 0 s _ _ ht (seg_again rfl loop)))))
end
end FF
namespace FF
open PySem PySem.Spec PyProof.Rows L2
variable [LT]
section
variable {α : Type}
theorem GzD.Inv.setGen {D : GzD α} {fx : List Addr} {σ : L2.St} {pins : List (Addr × Obj)} {H : Hp} {s : Shared} (G : D.Inv fx σ pins H s) {g : Nat} {x : GenState} (hx : x.bare = true) : D.Inv fx σ pins H (s.setGen g x) :=
  ⟨G.1, Inv.gens G.2.1 (bare_set G.2.1.bare hx), G.2.2⟩
/-- the generator g at ga sleeps; n: more than it will hand out; a: what the consumer has -/
structure GzD.Live (D : GzD α) (A : Around) (ga : Addr) (g n : Nat) (a : α) (s : Shared) : Prop where
  mem : ga ∈ D.prot
  isg : s.heap.IsGen ga g
  acc : D.Acc a s.heap
  inv : ∃ fx σ pins H, D.Inv fx σ pins H s
  go : ∃ gs, s.gens[g]? = some gs ∧ gs.Goes (model D.Z.prog D.Z.w) A.in1 D.R D.Y n (.send .none) (s.setGen g .running)
/-- it has handed out x, the heap is H; where the consumer comes to Nx it lives on -/
structure GzD.Told (D : GzD α) (A : Around) (ga : Addr) (g n : Nat) (a : α) (x : V) (H : Hp) (Nx : α → Hp → Prop) (s : Shared) : Prop where
  acc : D.Acc a s.heap
  yl : D.Yl a x H Nx
  isg : s.heap.IsGen ga g
  on : ∃ (fx : List Addr) (tx : Heap → Prop) (σ : L2.St) (pins : List (Addr × Obj)), D.Inv fx σ pins H s ∧ (∀ h h', tx h → (∀ b ∈ fx, ∀ o, h.get? b = some o → h'.get? b = some o) → tx h') ∧ tx s.heap ∧
    ∀ (s' : Shared) (pins' : List (Addr × Obj)) (H' : Hp) (a' : α), s'.gens = s.gens → s'.heap.IsGen ga g → D.Inv fx σ pins' H' s' → tx s'.heap → D.Acc a' s'.heap → Nx a' H' → ∃ n', n = n' + 1 ∧ D.Live A ga g n' a' s'
theorem pins_sameZ {D : GzD α} {fx : List Addr} {σ : L2.St} {pins : List (Addr × Obj)} {H : Hp} {s s₀ : Shared} (G : D.Inv fx σ pins H s) (h0 : ∀ p ∈ pins, s₀.heap.get? p.1 = some p.2) {b : Addr} (hb : b ∈ D.prot) : s.heap.get? b = s₀.heap.get? b := by
  rw [← G.1] at hb
  obtain ⟨p, hp, e⟩ := List.mem_map.mp hb
  rw [← e, (G.2.1.pin p (List.mem_append_right _ hp)).1, h0 p hp]
theorem gz_nextA {D : GzD α} {A : Around} {ga : Addr} {g n : Nat} {a : α} {s : Shared} {Q : Option Value → Shared → Prop} {E : Value → Shared → Prop} (calm : A.handled = none) (room : A.depth < recursionLimit)
    (hfun : ∀ a a' h, D.Acc a h → D.Acc a' h → a = a') (hpr : ∀ a h h', (∀ b ∈ D.prot, h'.get? b = h.get? b) → D.Acc a h → D.Acc a h') (L : D.Live A ga g n a s)
    (some_ : ∀ v x H Nx t, RelV x v → D.Told A ga g n a x H Nx t → Q (some v) t)
    (none_ : ∀ pins H t, D.Inv [] D.σ0 pins H t → D.Acc a t.heap → D.Dn a H → Q none t) :
    wpAny (model D.Z.prog D.Z.w) A (pyNext (.ref ga)) Q E s := by
  obtain ⟨_, _, pins0, H0, G0⟩ := L.inv
  obtain ⟨gs, hgs, hgo⟩ := L.go
  refine wpAny_pyNext_genexpQ (P := D.P) (Y := D.Y) (n := n) calm G0.2.1.nolimit room L.isg hgs hgo (fun v t gs' hb hv => ?_) (fun t hp h' hk => ?_)
  · obtain ⟨fx, tx, σ, a1, pins, H, x, Nx, rx, hz, hacc, h0, G, hst, htn, hyl, kap⟩ := hv
    have ea : a1 = a := hfun _ _ _ hacc L.acc
    subst ea
    have same : ∀ b ∈ D.prot, t.heap.get? b = s.heap.get? b := fun b hb' => pins_sameZ G h0 hb'
    have isg : t.heap.IsGen ga g := by
      obtain ⟨o, nm, qn, ho, r⟩ := L.isg
      exact ⟨o, nm, qn, (same ga L.mem).trans ho, r⟩
    refine some_ v x H Nx _ rx ⟨hpr _ _ _ same hacc, hyl, isg, fx, tx, σ, pins, G.setGen hb, hst, htn, fun s' pins' H' a' hge isg' G' htn' hacc' nx => ?_⟩
    have kp := kap (s'.setGen g .running) pins' H' a' (G'.setGen rfl) htn' hacc' nx
    cases n with
    | zero => exact kp.elim
    | succ n' =>
    refine ⟨n', rfl, L.mem, isg', hacc', ⟨_, _, _, _, G'⟩, gs', ?_, kp⟩
    rw [hge]
    · have hlt : g < t.gens.size := by
        have h1 : g < s.gens.size := (Array.getElem?_eq_some_iff.mp hgs).1
        have h2 : (s.setGen g .running).gens.size = s.gens.size := by simp [Shared.setGen]
        omega
      simp [Shared.setGen, hlt]
  · obtain ⟨a1, pins, H, hacc, h0, G, hdn⟩ := hp
    have ea : a1 = a := hfun _ _ _ hacc L.acc
    subst ea
    refine none_ pins H _ ⟨G.1, Inv.gens (G := (t.setGen g .finished).gens) (G.2.1.kept (t' := t.toks) hk) (bare_set G.2.1.bare rfl), G.2.2⟩ (hpr _ _ _ (fun b hb => ?_) hacc) hdn
    have hb2 := hb
    rw [← G.1] at hb2
    obtain ⟨p, hp, e⟩ := List.mem_map.mp hb2
    have h1 := h0 p hp
    have h2 := (G.2.1.pin p (List.mem_append_right _ hp)).1
    rw [← e]
    exact (hk _ _ h2).trans h1.symm
theorem GzD.Told.stay {D : GzD α} {A : Around} {ga : Addr} {g n : Nat} {a a' : α} {x : V} {H : Hp} {Nx : α → Hp → Prop} {s : Shared} (T : D.Told A ga g n a x H Nx s) (tk : Nat) (nx : Nx a' H) (ha : D.Acc a' s.heap) :
    ∃ n', n = n' + 1 ∧ D.Live A ga g n' a' { s with toks := tk } := by
  obtain ⟨fx, tx, σ, pins, G, hst, ht, on⟩ := T.on
  exact on { s with toks := tk } pins H a' rfl T.isg ⟨G.1, G.2.1.tok tk, G.2.2⟩ ht ha nx
theorem unit_funZ {D : GzD Unit} : ∀ a a' h, D.Acc a h → D.Acc a' h → a = a' := fun _ _ _ _ _ => rfl
theorem all_loopZ {D : GzD Unit} {A : Around} {ga : Addr} {g : Nat} {R : Result → Shared → Prop} {Fl : Hp → Prop} (calm : A.handled = none) (room : A.depth < recursionLimit) (hyl : D.Yl = ylAll false Fl) (hac : D.Acc = fun _ _ => True)
    (yes : ∀ pins H t, D.Inv [] D.σ0 pins H t → D.Dn () H → R (.ok (.ret (.bool true))) t) (no : ∀ fx σ pins H t, D.Inv fx σ pins H t → Fl H → R (.ok (.ret (.bool false))) t) :
    ∀ n s, D.Live A.in1 ga g n () s → codeAny (model D.Z.prog D.Z.w) A (.builtin "all.loop" ⟨[.ref ga], []⟩) R s := by
  intro n
  induction n using Nat.strongRecOn with
  | _ n ih =>
    intro s L
    refine codeAny_builtin F.entry_all_loop ?_
    rw [Around.under_plainId F.plain_all_loop _]
    show wpAny _ A.in1 (pyNext (.ref ga) >>= _) _ _ s
    refine wpAny_bind (gz_nextA (A := A.in1) calm room unit_funZ (fun _ _ _ _ _ => by rw [hac]; trivial) L (fun v x H Nx t rx T => ?_) (fun pins H t G _ dn => ?_))
    · have yl := T.yl
      rw [hyl] at yl
      obtain ⟨k, rfl, q⟩ := yl
      obtain rfl : v = .bool k := rx
      refine wpAny_bind (wpAny_holding (wpAny_truthy_bool (wpAny_bind (wpAny_letGo ?_))))
      cases k with
      | true =>
        simp only [Bool.true_eq_false, if_false] at q
        simp only [if_true]
        obtain ⟨n', rfl, L'⟩ := T.stay (a' := ()) t.toks q (by rw [hac]; trivial)
        exact wpAny_pure ⟨plainId_quiet F.plain_all_loop _, ih n' (Nat.lt_succ_self _) t L'⟩
      | false =>
        simp only [if_true] at q
        simp only [Bool.false_eq_true, if_false]
        obtain ⟨fx, tx, σ, pins, G, _⟩ := T.on
        exact wpAny_bind (wpAny_rule (wpAny_pure (no fx σ pins H t G q)))
    · exact wpAny_bind (wpAny_rule (wpAny_pure (yes pins H t G dn)))
end
end FF
namespace FF
open PySem PySem.Spec PyProof.Rows L2
variable [LT]
section
theorem eval_GeneratorExp3 (elt target iter : Expr) (ifs : List Expr) (tg1 iter1 : Expr) (scope : Scope) (pos : Pos) (env : Env) (hco : scope.isCoroutine = false) :
    eval (.GeneratorExp elt [⟨target, iter, ifs, 0⟩, ⟨tg1, iter1, [], 0⟩] scope pos) env = (do
      let x ← eval iter env
      standAt iter.pos
      let x ← genFold iter env x
      let it ← holding [x] (pyIter x)
      enterFrame
      let cl ← closureFor scope env
      let code ← genexprCode env pos (env.qual ++ "<genexpr>") scope
      let bi ← builtinsFor env.globals env.builtins
      let cenv ← newFunctionEnv scope env.globals cl [(".0", it)] (env.qual ++ "<genexpr>.") none code none bi
      newGenerator (.compStart (.GeneratorExp elt [⟨target, iter, ifs, 0⟩, ⟨tg1, iter1, [], 0⟩] scope pos) 0 it .none cenv) "<genexpr>" (env.qual ++ "<genexpr>")) := by
  rw [arm_eval_GeneratorExp]
  simp only [hco, Bool.false_eq_true, if_false]
  cases iter <;> rfl
variable {M : Model} {A : Around} {E : Value → Shared → Prop} {s : Shared}
theorem wpAny_GeneratorExp_make3 {env : Env} {elt target iter : Expr} {ifs : List Expr} {tg1 iter1 : Expr} {scope : Scope} {cl : List (Str × Addr)} {pos : Pos} {Q : Value → Shared → Prop}
    (hco : scope.isCoroutine = false) (hclos : closureFor scope env = pure cl) (hcell : ∀ y ∈ scope.names, y.2 ≠ .cell) (h0 : scope.names.lookup (".0" : Str) = some NameKind.local) (hkind : scope.kind = .function)
    (hroom : A.depth < recursionLimit)
    (h : wpAny M A (eval iter env) (fun xv s₁ => wpAny M A (pyIter xv) (fun it s₂ => s₂.heap.NoLimit ∧
      wpAny M A (genexprCode env pos (env.qual ++ "<genexpr>") scope) (fun code s₃ => wpAny M A (builtinsFor env.globals env.builtins) (fun bi s₄ =>
        ∀ h', h'.Ns s₄.heap.objs.size (fun y => if y = ".0" then some it else none) → Heap.SameBut s₄.heap.objs.size (s₄.heap.push { cls := .type "frame", data := .dict #[] }) h' →
          Q (.ref h'.objs.size) { s₄ with
            gens := s₄.gens.push (.fresh (.compStart (.GeneratorExp elt [⟨target, iter, ifs, 0⟩, ⟨tg1, iter1, [], 0⟩] scope pos) 0 it .none (genEnv scope cl s₄.heap.objs.size code bi env))),
            toks := s₄.toks + 1 + 1 + 1,
            heap := h'.push { cls := .type "generator", data := .fields #[.int s₄.gens.size 0, .str "<genexpr>" (s₄.toks + 1), .str (env.qual ++ "<genexpr>") (s₄.toks + 1 + 1)] } }) E s₃) E s₂) E s₁) E s)
    (hs : ∀ x, genFold iter env x = pure x) :
    wpAny M A (eval (.GeneratorExp elt [⟨target, iter, ifs, 0⟩, ⟨tg1, iter1, [], 0⟩] scope pos) env) Q E s := by
  rw [eval_GeneratorExp3 _ _ _ _ _ _ _ _ _ hco, hclos]
  refine wpAny_bind (wpAny_mono h (fun xv s₁ h₁ => ?_) fun _ _ e => e)
  refine wpAny_bind (wpAny_standAt ?_)
  refine wpAny_bind (wpAny_of_eq (hs xv) ?_)
  refine wpAny_bind (wpAny_holding (wpAny_mono h₁ (fun it s₂ h₂ => ?_) fun _ _ e => e))
  refine wpAny_bind (wpAny_enterFrame h₂.1 hroom ?_)
  refine wpAny_bind (wpAny_pure ?_)
  refine wpAny_bind (wpAny_mono h₂.2 (fun code s₃ h₃ => ?_) fun _ _ e => e)
  refine wpAny_bind (wpAny_mono h₃ (fun bi s₄ h₄ => ?_) fun _ _ e => e)
  have hbinds : ∀ y ∈ ([((".0" : Str), it)] : List (Str × Value)), scope.names.lookup y.1 = some NameKind.local := by
    intro y hy
    rcases List.mem_cons.mp hy with rfl | hy
    · exact h0
    · cases hy
  refine wpAny_bind (wpAny_newFunctionEnv hcell hbinds (fun h' hn' hs' => ?_) hkind)
  have e : (fun y : Str => ([((".0" : Str), it)] : List (Str × Value)).reverse.lookup y) = fun y : Str => if y = (".0" : Str) then some it else none := by
    funext y
    by_cases hy : y = ".0"
    · subst hy; simp
    · have : (y == (".0" : Str)) = false := by simpa using hy
      simp [List.lookup, this, hy]
  rw [e] at hn'
  simp only [newGenerator, newFields]
  refine wpAny_bind (wpAny_newGen (wpAny_bind (wpAny_mkText (wpAny_bind (wpAny_mkText (wpAny_newObj_type ?_ (by size_fits)))))))
  exact h₄ h' hn' hs'
end
section
variable {X : Cx} {pins : List (Addr × Obj)} {σ : L2.St} {H : Hp} {s : Shared}
/-- a generator expression with two fors has been made, at ga -/
structure Ready3 (X : Cx) (pins : List (Addr × Obj)) (σ : L2.St) (elt tg iter : Expr) (ifs : List Expr) (tg1 iter1 : Expr) (scope : Scope) (gpos : Pos) (N : List Str) (src : List (Option Nat)) (J : It) (G : Hp) (it : Addr) (fp : List Addr) (tn : Nat → Heap → Prop) (code : Value) (s4 t : Shared) (ga : Addr) (g : Nat) : Prop where
  i4 : L2.Inv X pins σ G s4
  fpX : ∀ b ∈ fp, FpOk X pins G b ∧ b < s4.heap.objs.size
  turn : Turn X.prog X.w X.K tg J fp it tn
  tn0 : tn 0 t.heap
  isg : t.heap.IsGen ga g
  gen : t.gens[g]? = some (.fresh (.compStart (.GeneratorExp elt [⟨tg, iter, ifs, 0⟩, ⟨tg1, iter1, [], 0⟩] scope gpos) 0 (.ref it) .none (gEnv X scope s4.heap.objs.size code)))
  inv : ∀ A : Around, A.handled = none → A.frames = some (gEnv X scope s4.heap.objs.size code :: X.stack) → L2.Inv (gcx X A N s4 G (gEnv X scope s4.heap.objs.size code) fp) [] (gxσ src σ) G t
  new : s4.heap.objs.size < ga
  lt : ga < t.heap.objs.size
theorem gx_make3 {c P : Addr} {elt tg iter : Expr} {ifs : List Expr} {tg1 iter1 : Expr} {scope : Scope} {gpos : Pos} {N : List Str} {src : List (Option Nat)} {wi : TI} {k : Nat} {Rr : It → Hp → Prop} {Q' : Value → Shared → Prop} (hr : Room k X.A) (TB : LamX.TabB X.base X.mg c P) (hcode : X.env.code = .ref c)
    (S : GxS X.N X.env.scope scope N src) (hi : PI X tg iter wi) (hs : ∀ v, genFold iter X.env v = pure v) (I : L2.Inv X pins σ H s) (h : wi σ H fun J H1 => TabG H1 P ∧ ∀ H2, Tabd P H1 H2 → Rr J H2)
    (fin : ∀ J G it fp tn code s4 t ga g, Rr J G → Ready3 X pins σ elt tg iter ifs tg1 iter1 scope gpos N src J G it fp tn code s4 t ga g → Q' (.ref ga) t) :
    wpAny (model X.prog X.w) X.A (eval (.GeneratorExp elt [⟨tg, iter, ifs, 0⟩, ⟨tg1, iter1, [], 0⟩] scope gpos) X.env) Q' X.xe s := by
  have hfree : ∀ y ∈ scope.names, y.2 = .free → ∃ c, X.env.cells.lookup y.1 = some c := fun y hy e => by
    rcases S.free y hy e with k | k
    · exact I.ok.has _ (.inl k)
    · exact I.ok.has _ (.inr k)
  refine wpAny_GeneratorExp_make3 S.co (closure_ok hfree) S.cell S.dot S.kind hr.depth (thn (hi.run pins s σ H _ I h) fun xv s1 hx => thn hx fun itv s2 h2 => ?_) hs
  obtain ⟨it, fp, tn, J, H2, e, I2, T, st2, f2, ⟨ps, hP, htr, hlm⟩, q⟩ := h2
  subst e
  have hPs : s2.heap.get? P = some { cls := .none, data := .fields ps } := I2.hok P _ hP
  have cd : PySem.W.CodeHd s2.heap c P := TB.code.keeps I2.bk
  have sz : ∀ b ∈ fp, b < s2.heap.objs.size := fun b hb => by
    obtain ⟨o, e, _⟩ := T.obj _ _ st2 b hb
    exact Heap.lt_size e
  have nP : ∀ b ∈ fp, b ≠ P := fun b hb z => by
    have := (f2 b hb).1
    rw [z, hP] at this
    cases this
  refine ⟨I2.nolimit, ?_⟩
  -- behind the code object's making: the table is ps ++ more
  have cont : ∀ (code : Value) (h3 : Heap) (tk : Nat) (more : Array Value), Heap.ExtBut P s2.heap h3 → h3.get? P = some { cls := .none, data := .fields (ps ++ more) } → TriplesOk (ps ++ more).toList →
      wpAny (model X.prog X.w) X.A (builtinsFor X.env.globals X.env.builtins) (fun bi s4 =>
        ∀ h', h'.Ns s4.heap.objs.size (fun y => if y = ".0" then some (.ref it) else none) → Heap.SameBut s4.heap.objs.size (s4.heap.push { cls := .type "frame", data := .dict #[] }) h' →
          Q' (.ref h'.objs.size) { s4 with
            gens := s4.gens.push (.fresh (.compStart (.GeneratorExp elt [⟨tg, iter, ifs, 0⟩, ⟨tg1, iter1, [], 0⟩] scope gpos) 0 (.ref it) .none (genEnv scope (cloFrom X.env.cells scope.names []) s4.heap.objs.size code bi X.env))),
            toks := s4.toks + 1 + 1 + 1,
            heap := h'.push { cls := .type "generator", data := .fields #[.int s4.gens.size 0, .str "<genexpr>" (s4.toks + 1), .str (X.env.qual ++ "<genexpr>") (s4.toks + 1 + 1)] } }) X.xe { s2 with heap := h3, toks := tk } := by
    intro code h3 tk more hx hm htr3
    obtain ⟨bm, ob, e1, e2, e3, e4, e5, e6, e7, e8⟩ := TB.bm
    have J4 : L2.Inv X pins σ (upd H2 P (.tbl (ps ++ more))) { s2 with heap := h3, gens := s2.gens, drawn := s2.drawn, toks := tk } := GxR.inv_tab (more := more) I2 hP (fun b o hb e => hx b o hb e) hm I2.bare
    have f4 : ∀ b ∈ fp, FpOk X pins (upd H2 P (.tbl (ps ++ more))) b ∧ b < h3.objs.size := fun b hb => by
      obtain ⟨o, e, _⟩ := T.obj _ _ st2 b hb
      exact ⟨⟨by rw [upd_ne (nP b hb)]; exact (f2 b hb).1, (f2 b hb).2⟩, Heap.lt_size (hx b o (nP b hb) e)⟩
    have tn3 : tn 0 h3 := T.keep _ _ _ st2 fun b hb o e => hx b o (nP b hb) e
    refine wpAny_builtinsFor (m := X.mg) (by rw [I2.ok.glob]; exact (I2.mod.glob.keeps I2.bk).extBut hx TB.gP) e1 e2 (hx _ _ e4 (I2.bk _ _ e5)) e6 e7 e8 ?_
    intro h' hn' hs'
    have hsz : h'.objs.size = h3.objs.size + 1 := by rw [hs'.1, Heap.size_push]
    have kp : ∀ b o, h3.get? b = some o → h'.get? b = some o := fun b o e => hs'.extBut b o (Nat.ne_of_lt (Heap.lt_size e)) (Heap.get?_push_of_some _ e)
    refine fin J (upd H2 P (.tbl (ps ++ more))) it fp tn code { s2 with heap := h3, toks := tk } _ _ s2.gens.size (q _ ⟨⟨ps ++ more, upd_same, htr3, hlm⟩, fun b hb => upd_ne hb⟩) ⟨J4, f4, T, T.keep _ _ _ tn3 fun b hb o e => Heap.get?_push_of_some _ (kp b o e), ⟨_, _, _, Heap.get?_push_size _ rfl, rfl, rfl, rfl⟩, Array.getElem?_push_size .., fun A hA hF => ?_, by show h3.objs.size < h'.objs.size; omega, by show h'.objs.size < (h'.push _).objs.size; rw [Heap.size_push]; exact Nat.lt_succ_self _⟩
    exact gx_inv (s := { s2 with heap := h3, toks := tk }) S J4 f4 hA hF rfl hn' hs'
  cases hf : codeAmong gpos ps.toList with
  | none =>
    refine wpAny_genexprCodeX hcode (cd.code hPs htr) (cd.tab hPs) hf fun c' h' tk hx hge hlt hco' _ htab' _ => ?_
    obtain ⟨o1, vs, f1, tf, fl, tg', inF, tx, tt, op, _, _, _, _, _, _, _, _, _, htr', _⟩ := hco'
    exact cont _ h' tk _ hx htab'.2 htr'
  | some cv =>
    refine wpAny_genexprCode_hit hcode (cd.code hPs htr) hf ?_
    exact cont cv s2.heap s2.toks #[] (Heap.ExtBut.refl _ _) (by rw [Array.append_empty]; exact hPs) (by rw [Array.append_empty]; exact htr)
theorem over_frames3 {A : Around} {elt tg iter : Expr} {ifs : List Expr} {tg1 iter1 : Expr} {scope : Scope} {pos : Pos} {it : Value} {env : Env} {l : List Env} (h : A.frames = some l) :
    (A.over (.compLoop (.GeneratorExp elt [⟨tg, iter, ifs, 0⟩, ⟨tg1, iter1, [], 0⟩] scope pos) 0 it .none env) []).frames = some (env :: l) := by
  unfold Around.over
  simp only [h]
  rfl
theorem over_room3 {A : Around} {elt tg iter : Expr} {ifs : List Expr} {tg1 iter1 : Expr} {scope : Scope} {pos : Pos} {it : Value} {env : Env} {k : Nat} (r : Room (k + 1) A) :
    Room k (A.over (.compLoop (.GeneratorExp elt [⟨tg, iter, ifs, 0⟩, ⟨tg1, iter1, [], 0⟩] scope pos) 0 it .none env) []) :=
  ⟨r.hd, by have := r.dp; show A.depth + 0 + 1 + 3 * k + 5 < _; omega, by have := r.un; show A.units + 0 + 3 + 16 * k + 200 < _; omega⟩
/-- what the rules ask of the parts -/
structure GzP (X : Cx) (k : Nat) (elt tg : Expr) (ifs : List Expr) (tg1 iter1 : Expr) (scope : Scope) (N : List Str) (g : TG) (tt : TT) (wi1 : TI) (g1 : TG) (te : TE) : Prop where
  pg : ∀ (A : Around) (s : Shared) (G : Hp) (C : Addr) (code : Value) (fp : List Addr), PG (gcx X A N s G (gEnv X scope C code) fp) tg g
  pt : ∀ (A : Around) (s : Shared) (G : Hp) (C : Addr) (code : Value) (fp : List Addr), Room k A → L2.PTs (gcx X A N s G (gEnv X scope C code) fp) ifs tt
  pi : ∀ (A : Around) (s : Shared) (G : Hp) (C : Addr) (code : Value) (fp : List Addr), Room k A → PI (gcx X A N s G (gEnv X scope C code) fp) tg1 iter1 wi1
  pg1 : ∀ (A : Around) (s : Shared) (G : Hp) (C : Addr) (code : Value) (fp : List Addr), PG (gcx X A N s G (gEnv X scope C code) fp) tg1 g1
  pe : ∀ (A : Around) (s : Shared) (G : Hp) (C : Addr) (code : Value) (fp : List Addr), Room k A → PE (gcx X A N s G (gEnv X scope C code) fp) elt te
def GzT {α : Type} (J : It) (g : TG) (tt : TT) (wi1 : TI) (g1 : TG) (te : TE) (vs vs1 : List Nat) (σ0 : L2.St) (W : Nat → Nat → α → Hp → Prop) (yl : α → V → Hp → (α → Hp → Prop) → Prop) (dn : α → Hp → Prop) : Prop :=
  ∀ i m a H, W i m a H → (J.stop i H ∧ dn a H) ∨ (J.go i H ∧ ∀ x H1, J.yld i H x H1 → g x σ0 H1 fun σ2 H2 => wipe σ2 vs = σ0 ∧ tt σ2 H2 fun b H3 => if b = true then wi1 σ2 H3 fun J1 H4 =>
    ∃ W1 : Nat → Nat → α → Hp → Prop, (∃ m1, m1 < m ∧ W1 0 m1 a H4) ∧ ∀ j k a H, W1 j k a H → (J1.stop j H ∧ ∃ m', m' ≤ k ∧ W (i + 1) m' a H) ∨ (J1.go j H ∧ ∃ Nx1 : α → Hp → Prop, (∀ a' H', Nx1 a' H' → ∃ k', k' < k ∧ W1 (j + 1) k' a' H') ∧
      ∀ x H1, J1.yld j H x H1 → g1 x (wipe σ2 vs1) H1 fun σ3 H3 => wipe σ3 vs1 = wipe σ2 vs1 ∧ te σ3 H3 fun y H4 => yl a y H4 Nx1)
    else ∃ m', m' < m ∧ W (i + 1) m' a H3)
section
variable {α : Type} {elt tg iter : Expr} {ifs : List Expr} {tg1 iter1 : Expr} {scope : Scope} {gpos : Pos} {N : List Str} {src : List (Option Nat)} {J : It} {G : Hp} {it : Addr} {fp : List Addr} {tn : Nat → Heap → Prop} {code : Value} {s4 t : Shared} {ga : Addr} {g : Nat} {gg : TG} {tt : TT} {wi1 : TI} {gg1 : TG} {te : TE}
abbrev Ready3.dat (_ : Ready3 X pins σ elt tg iter ifs tg1 iter1 scope gpos N src J G it fp tn code s4 t ga g) (A : Around) (prot : List Addr) (Acc : α → Heap → Prop) (W : Nat → Nat → α → Hp → Prop) (Yl : α → V → Hp → (α → Hp → Prop) → Prop) (Dn : α → Hp → Prop) (vs vs1 : List Nat) : GzD α :=
  ⟨gcx X (A.in1.over (.compLoop (.GeneratorExp elt [⟨tg, iter, ifs, 0⟩, ⟨tg1, iter1, [], 0⟩] scope gpos) 0 (.ref it) .none (gEnv X scope s4.heap.objs.size code)) []) N s4 G (gEnv X scope s4.heap.objs.size code) fp, elt, tg, iter, ifs, tg1, iter1, scope, gpos, it, fp, tn, J, prot, Acc, W, Yl, Dn, wipe (gxσ src σ) vs, vs, vs1⟩
theorem Ready3.live (R : Ready3 X pins σ elt tg iter ifs tg1 iter1 scope gpos N src J G it fp tn code s4 t ga g) {k : Nat} {A : Around} {C : List (Addr × Obj)} {Acc : α → Heap → Prop} {W : Nat → Nat → α → Hp → Prop} {Yl : α → V → Hp → (α → Hp → Prop) → Prop} {Dn : α → Hp → Prop} {vs vs1 : List Nat} {a : α} {m : Nat} {h' : Heap} {tk : Nat}
    (S : GxS X.N X.env.scope scope N src) (hp : GzP X k elt tg ifs tg1 iter1 scope N gg tt wi1 gg1 te) (hs1 : ∀ env x, foldedSetIterable iter1 env x = pure x) (hv : ∀ i ∈ vs1, i ∈ vs) (room : Room (k + 2) A.in1) (hA : A.in1.frames = some X.stack) (ht : GzT J gg tt wi1 gg1 te vs vs1 (wipe (gxσ src σ) vs) W Yl Dn)
    (hk : ∀ b o, t.heap.get? b = some o → h'.get? b = some o) (hC : ∀ p ∈ C, h'.get? p.1 = some p.2 ∧ t.heap.objs.size ≤ p.1 ∧ ∀ v, p.2.data ≠ .cell v) (hacc : Acc a h') (hw : W 0 m a G) :
    (R.dat A (ga :: C.map (·.1)) Acc W Yl Dn vs vs1).Ok k gg tt wi1 gg1 te ∧ (R.dat A (ga :: C.map (·.1)) Acc W Yl Dn vs vs1).Live A ga g (m + 1) a { t with heap := h', toks := tk } := by
  have hZ := R.inv (A.in1.over (.compLoop (.GeneratorExp elt [⟨tg, iter, ifs, 0⟩, ⟨tg1, iter1, [], 0⟩] scope gpos) 0 (.ref it) .none (gEnv X scope s4.heap.objs.size code)) []) room.hd (over_frames3 hA)
  have hZ2 : L2.Inv (gcx X (A.in1.over (.compLoop (.GeneratorExp elt [⟨tg, iter, ifs, 0⟩, ⟨tg1, iter1, [], 0⟩] scope gpos) 0 (.ref it) .none (gEnv X scope s4.heap.objs.size code)) []) N s4 G (gEnv X scope s4.heap.objs.size code) fp) [] (wipe (gxσ src σ) vs) G { t with heap := h', toks := tk } :=
    (hZ.weak (wipe_length _ _) fun j v e => (wipe_some e).1).kept (t' := tk) hk
  obtain ⟨og, nm, qn, hog, hcls, hdat, hsl⟩ := id R.isg
  have young : ∀ b, s4.heap.objs.size < b → G b = none ∧ b ≠ s4.heap.objs.size ∧ b ∉ frs X.stack := fun b hb => ⟨R.i4.hok.fresh (Nat.le_of_lt hb), Nat.ne_of_gt hb, fun z => by
    rcases List.mem_cons.mp (R.i4.stkSub b z) with z | z
    · rw [z] at hb
      exact absurd (Nat.lt_trans R.i4.lt hb) (Nat.lt_irrefl _)
    · exact R.i4.nofs (Nat.le_of_lt hb) z⟩
  have cY : ∀ p ∈ C, s4.heap.objs.size < p.1 := fun p hp' => Nat.lt_of_lt_of_le (Nat.lt_trans R.new R.lt) (hC p hp').2.1
  have ok : (R.dat A (ga :: C.map (·.1)) Acc W Yl Dn vs vs1).Ok k gg tt wi1 gg1 te := ⟨rfl, rfl, S.co, R.turn, hp.pg .., hp.pt _ _ _ _ _ _ ((over_room3 room).mono (Nat.le_succ k)), hp.pi _ _ _ _ _ _ ((over_room3 room).mono (Nat.le_succ k)), hs1, fun A => hp.pg1 .., fun A r => hp.pe _ _ _ _ _ _ r, hv, ht⟩
  have GI : (R.dat A (ga :: C.map (·.1)) Acc W Yl Dn vs vs1).Inv fp (wipe (gxσ src σ) vs) ((ga, og) :: C) G { t with heap := h', toks := tk } := by
    refine ⟨rfl, hZ2.pins_of fun p hp' => ?_, fun b hb => ?_⟩
    · rcases List.mem_cons.mp hp' with rfl | hp'
      · obtain ⟨y1, y2, y3⟩ := young ga R.new
        exact ⟨hk _ _ hog, y1, y2, y3, fun v z => by rw [hdat] at z; cases z⟩
      · obtain ⟨y1, y2, y3⟩ := young p.1 (cY p hp')
        exact ⟨(hC p hp').1, y1, y2, y3, (hC p hp').2.2⟩
    · refine ⟨(R.fpX b hb).1.1, Nat.ne_of_lt (R.fpX b hb).2, hZ.ok.exfs b hb, .inl hb, (hZ.ok.exf b hb).2, fun p hp' z => ?_⟩
      have hb2 := (R.fpX b hb).2
      rcases List.mem_cons.mp (show p ∈ (ga, og) :: C from hp') with e | hp'
      · rw [← z, e] at hb2
        exact absurd (Nat.lt_trans R.new hb2) (Nat.lt_irrefl _)
      · rw [← z] at hb2
        exact absurd (Nat.lt_trans (cY p hp') hb2) (Nat.lt_irrefl _)
  refine ⟨ok, List.mem_cons_self, ⟨og, nm, qn, hk _ _ hog, hcls, hdat, hsl⟩, hacc, ⟨_, _, _, _, GI⟩, _, R.gen, rfl, ?_⟩
  exact gz_begin ok (A := A.in1) rfl hA rfl (room.mono (Nat.le_succ (k + 1))) (Nat.lt_succ_self m) (GI.setGen rfl) (R.turn.keep _ _ _ R.tn0 fun b _ o e => hk b o e) hacc hw
/-- back in the def -/
theorem Ready3.back (R : Ready3 X pins σ elt tg iter ifs tg1 iter1 scope gpos N src J G it fp tn code s4 t ga g) {A : Around} {prot : List Addr} {Acc : α → Heap → Prop} {W : Nat → Nat → α → Hp → Prop} {Yl : α → V → Hp → (α → Hp → Prop) → Prop} {Dn : α → Hp → Prop} {vs vs1 : List Nat} {fx : List Addr} {σ1 : L2.St} {pn : List (Addr × Obj)} {H' : Hp} {s' : Shared}
    (GI : (R.dat A prot Acc W Yl Dn vs vs1).Inv fx σ1 pn H' s') : L2.Inv X pins σ H' s' :=
  R.i4.call' (ch := fp) GI.2.1.os GI.2.1.base GI.2.1.hok GI.2.1.bare fun b hb => ⟨(R.fpX b hb).1.2.2.2.1, (R.fpX b hb).1.2.1, (R.fpX b hb).1.2.2.2.2.1, (R.fpX b hb).1.2.2.2.2.2⟩
end
end
end FF
namespace FF
open PySem PySem.Spec PyProof.Rows L2
variable [LT]
/-! ### all(elt for .. in .. if .. for .. in ..) -/
def tAllG2 (P : Addr) (wi : TI) (g : TG) (tt : TT) (wi1 : TI) (g1 : TG) (te : TE) (src : List (Option Nat)) (vs vs1 : List Nat) : TE := fun σ H Q => wi σ H fun J H1 => TabG H1 P ∧ ∀ H2, Tabd P H1 H2 →
  ∃ W : Nat → Nat → Hp → Prop, (∃ m, W 0 m H2) ∧ GzT (α := Unit) J g tt wi1 g1 te vs vs1 (wipe (gxσ src σ) vs) (fun i m _ H => W i m H) (ylAll false fun H' => Q (.bl false) H') (fun _ H' => Q (.bl true) H')
section
variable {X : Cx} {c P : Addr} {elt tg iter : Expr} {ifs : List Expr} {tg1 iter1 : Expr} {scope : Scope} {gpos p pos : Pos} {N : List Str} {src : List (Option Nat)} {wi : TI} {g : TG} {tt : TT} {wi1 : TI} {g1 : TG} {te : TE} {k : Nat} {vs vs1 : List Nat}
theorem pe_all2 (hr : Room (k + 4) X.A) (hg : Gl X "all") (hm : X.mg "all" = none) (hb : bootBuiltins "all" = some (.builtin "all")) (TB : LamX.TabB X.base X.mg c P) (hcode : X.env.code = .ref c) (S : GxS X.N X.env.scope scope N src) (hi : PI X tg iter wi) (hp : GzP X k elt tg ifs tg1 iter1 scope N g tt wi1 g1 te) (hv : ∀ i ∈ vs1, i ∈ vs)
    (hs : ∀ v, genFold iter X.env v = pure v := by intro _; rfl) (hs1 : ∀ env x, foldedSetIterable iter1 env x = pure x := by intro _ _; rfl)
    (he : starEach [.GeneratorExp elt [⟨tg, iter, ifs, 0⟩, ⟨tg1, iter1, [], 0⟩] scope gpos] X.env = (false, eval (.GeneratorExp elt [⟨tg, iter, ifs, 0⟩, ⟨tg1, iter1, [], 0⟩] scope gpos) X.env) :: starEach [] X.env := by rfl) :
    PE X (.Call (.Name "all" p) [.GeneratorExp elt [⟨tg, iter, ifs, 0⟩, ⟨tg1, iter1, [], 0⟩] scope gpos] [] pos) (tAllG2 P wi g tt wi1 g1 te src vs vs1) := by
  refine ⟨fun pins s σ H Q I h => ?_⟩
  refine wpAny_Call_Name_kw (ld_blt I hg hm hb (PyProof.Rows.callWith_builtin1 ?_ he (by rfl)))
  rw [he]
  show wpAny _ _ (spliced ((false, eval (.GeneratorExp elt [⟨tg, iter, ifs, 0⟩, ⟨tg1, iter1, [], 0⟩] scope gpos) X.env) :: backTo pos (starEach [] X.env))) _ _ s
  refine Calls.spliced_cons (gx_make3 hr TB hcode S hi hs I h fun J G it fp tn code s4 t ga gn q R => Calls.spliced_nil ?_)
  obtain ⟨W, ⟨m, w0⟩, ht⟩ := q
  have r1 : Room (k + 3) X.A.in1 := hr.in1
  have r2 : Room (k + 2) X.A.in1.in1 := r1.in1
  obtain ⟨ok, L⟩ := R.live (A := X.A.in1) (C := []) (Acc := fun _ _ => True) (a := ()) (m := m) (h' := t.heap) (tk := t.toks) S hp hs1 hv r2 I.ok.frames ht (fun _ _ e => e) (fun _ z => nomatch z) trivial w0
  refine call_function_tree F.kind_all F.plain_all F.entry_all (F.args_all1 _) ?_
  unfold Builtin.«all»
  refine wpAny_bind (m := oneArg "all" _) (wpAny_pure ?_)
  refine wpAny_bind (wpAny_pyIter_gen R.isg ?_)
  refine wpAny_pure ⟨plainId_quiet F.plain_all_loop _, all_loopZ (A := X.A) hr.hd hr.depth rfl rfl (fun pn H' t' GI dn => ?_) (fun fx σ1 pn H' t' GI q => ?_) (m + 1) t L⟩
  · exact ⟨.bl true, H', R.back GI, rfl, dn⟩
  · exact ⟨.bl false, H', R.back GI, rfl, q⟩
end
/-- a turn's inner loop -/
def InG3 (g1 : TG) (te : TE) (vs1 : List Nat) (σ2 : L2.St) (yl : Unit → V → Hp → (Unit → Hp → Prop) → Prop) (b : Nat) (Nx : Nat → Hp → Prop) : It → Hp → Prop := fun J1 H4 =>
  ∃ W1 : Nat → Nat → Unit → Hp → Prop, (∃ m1, m1 < b ∧ W1 0 m1 () H4) ∧ ∀ j k a H, W1 j k a H → (J1.stop j H ∧ ∃ m', m' ≤ k ∧ Nx m' H) ∨ (J1.go j H ∧ ∃ Nx1 : Unit → Hp → Prop, (∀ a' H', Nx1 a' H' → ∃ k', k' < k ∧ W1 (j + 1) k' a' H') ∧
      ∀ x H1, J1.yld j H x H1 → g1 x (wipe σ2 vs1) H1 fun σ3 H3 => wipe σ3 vs1 = wipe σ2 vs1 ∧ te σ3 H3 fun y H4 => yl a y H4 Nx1)
/-- a walk some of whose turns are walks: M tells how much is left to come from turn i on -/
theorem gz_out {J : It} {n : Nat} {Gd : Hp → Prop} {Y : Nat → Hp → V → Hp → Prop} (wk : Walk J n Gd Y) {g : TG} {tt : TT} {wi1 : TI} {g1 : TG} {te : TE} {vs vs1 : List Nat} {σ0 : L2.St} {yl : Unit → V → Hp → (Unit → Hp → Prop) → Prop} {dn : Unit → Hp → Prop} {H0 : Hp} (M : Nat → Nat) (Pv : Nat → Hp → Prop) (h0 : Pv 0 H0) (hG : ∀ i H, i ≤ n → Pv i H → Gd H)
    (hs : ∀ (i : Nat) x H H', i < n → Pv i H → Y i H x H' → g x σ0 H' fun σ2 H2 => wipe σ2 vs = σ0 ∧ tt σ2 H2 fun b H3 => if b = true then wi1 σ2 H3 (InG3 g1 te vs1 σ2 yl (M i) fun m' H => m' = M (i + 1) ∧ i + 1 ≤ n ∧ Pv (i + 1) H) else ∃ m', m' < M i ∧ m' = M (i + 1) ∧ i + 1 ≤ n ∧ Pv (i + 1) H3) (hd : ∀ H, Pv n H → dn () H) :
    ∃ W : Nat → Nat → Hp → Prop, (∃ m, W 0 m H0) ∧ GzT (α := Unit) J g tt wi1 g1 te vs vs1 σ0 (fun i m _ H => W i m H) yl dn := by
  refine ⟨fun i m H => m = M i ∧ i ≤ n ∧ Pv i H, ⟨_, rfl, Nat.zero_le _, h0⟩, ?_⟩
  rintro i m a H ⟨rfl, hi, p⟩
  have ok := hG i H hi p
  by_cases hlt : i < n
  · exact .inr ⟨wk.goes i H hlt ok, fun x H1 y => hs i x H H1 hlt p (wk.yields i H x H1 hlt ok y)⟩
  · have e : i = n := by omega
    subst e
    exact .inl ⟨wk.stops H ok, hd H p⟩
theorem gz_inn {J1 : It} {n : Nat} {Gd : Hp → Prop} {Y : Nat → Hp → V → Hp → Prop} (wk : Walk J1 n Gd Y) {g1 : TG} {te : TE} {vs1 : List Nat} {σ2 : L2.St} {yl : Unit → V → Hp → (Unit → Hp → Prop) → Prop} {b c : Nat} {Nx : Nat → Hp → Prop} {H4 : Hp} (hb : n + c < b) (Pv : Nat → Hp → Prop) (h0 : Pv 0 H4) (hG : ∀ i H, i ≤ n → Pv i H → Gd H)
    (hs : ∀ (j : Nat) x H H', j < n → Pv j H → Y j H x H' → g1 x (wipe σ2 vs1) H' fun σ3 H3 => wipe σ3 vs1 = wipe σ2 vs1 ∧ te σ3 H3 fun y H5 => yl () y H5 fun _ H6 => Pv (j + 1) H6) (hd : ∀ H, Pv n H → Nx c H) : InG3 g1 te vs1 σ2 yl b Nx J1 H4 := by
  refine ⟨fun j k _ H => k = n - j + c ∧ j ≤ n ∧ Pv j H, ⟨n + c, hb, by omega, Nat.zero_le _, h0⟩, ?_⟩
  rintro j k a H ⟨rfl, hj, p⟩
  have ok := hG j H hj p
  by_cases hlt : j < n
  · exact .inr ⟨wk.goes j H hlt ok, fun _ H => Pv (j + 1) H, fun a' H' p' => ⟨n - (j + 1) + c, by omega, rfl, hlt, p'⟩, fun x H1 y => hs j x H H1 hlt p (wk.yields j H x H1 hlt ok y)⟩
  · have e : j = n := by omega
    subst e
    exact .inl ⟨wk.stops H ok, c, by omega, hd H p⟩
end FF
namespace FF
open PySem PySem.Spec PyProof.Rows L2
variable [LT]
/-! ### enumerate(t, start=k) of a tuple -/
theorem callWith_type_kw {M : Model} {A : Around} {E : Value → Shared → Prop} {s : Shared} {pos : Pos} {T : String} {first : List Value} {args : List (Bool × Sem Value)} {keywords : List (Option Str × Sem Value)} {Q : Value → Shared → Prop} (h1 : (args.any (·.1)) = false) (h2 : (keywords.any (·.1.isNone)) = false)
    (h : wpAny M A (evalArgs (.type T) true args keywords) (fun a s₁ => wpAny M A (call (.type T) (first ++ a.pos) a.kw) Q E s₁) E s) : wpAny M A (callWith pos (.type T) first args keywords) Q E s := by
  unfold callWith
  refine wpAny_bind (wpAny_holding (wpAny_mono h (fun a s1 h1' => ?_) fun _ _ e => e))
  refine wpAny_bind (wpAny_standAt ?_)
  simp only [h1, h2, Bool.or_false]
  refine wpAny_bind (wpAny_pure ?_)
  show wpAny _ _ (call _ _ _ >>= _) _ _ _
  refine wpAny_bind (wpAny_mono h1' (fun r s2 h3 => ?_) fun _ _ e => e)
  refine wpAny_bind (wpAny_holding (wpAny_point ?_))
  exact wpAny_pure h3
/-- the tuple at a, each item in a new pair behind its number -/
def IteT1 (K : PySem.W.Frag) (a : Addr) (k0 : Int) : It where
  go i H := ∃ (xs : List V) (x : V), SqT K H a xs ∧ xs[i]? = some x
  yld i H v H' := ∃ t x, v = .ref t ∧ H t = none ∧ H' = upd H t (.tup [.int (k0 + (i : Nat)), x]) ∧ ∀ xs, SqT K H a xs → xs[i]? = some x
  stop i H := ∃ xs : List V, SqT K H a xs ∧ xs.length ≤ i
theorem turnEnumT1 {P : Program} {w : World} {K : PySem.W.Frag} {elts : List Expr} {kk : Nat} {tpos : Pos} (a e j : Addr) (k0 : Int) :
    Turn P w K (.Tuple elts kk tpos) (IteT1 K a k0) [e, j] e (fun i h => (∃ v, IsEnum h e j (k0 + ((i : Nat) : Int)) v) ∧ h.IsTupleIter j a i ∧ e ≠ j) where
  mem := List.mem_cons_self
  obj := by
    intro i h st b hb
    obtain ⟨⟨v, he⟩, ⟨o, ho, hc, hd⟩, _⟩ := st
    rcases List.mem_cons.mp hb with rfl | hb
    · exact ⟨_, he, fun _ z => nomatch z⟩
    · rw [List.mem_singleton.mp hb]
      exact ⟨o, ho, fun _ z => by rw [hd] at z; cases z⟩
  keep := by
    intro i h h' st k
    obtain ⟨⟨v, he⟩, ⟨o, ho, r⟩, far⟩ := st
    exact ⟨⟨v, k e List.mem_cons_self _ he⟩, ⟨o, k j (List.mem_cons_of_mem _ List.mem_cons_self) o ho, r⟩, far⟩
  item := by
    intro X hP hw hK calm i pins s σ H E I hf st hg
    subst hP hw hK
    obtain ⟨⟨v, he⟩, hj, far⟩ := st
    obtain ⟨xs, x, hq, hx⟩ := hg
    obtain ⟨its, rv, hp, _⟩ := I.tuple hq
    obtain ⟨u, hu, ru⟩ := rv.get hx
    have le : e < s.heap.objs.size := Heap.lt_size he
    have lj : j < s.heap.objs.size := by
      obtain ⟨_, z, _⟩ := hj
      exact Heap.lt_size z
    have hne : a ≠ j := by
      intro z
      obtain ⟨o1, a1, b1, _⟩ := hj
      obtain ⟨o2, a2, b2, _⟩ := hp
      rw [z, a1] at a2
      cases a2
      rw [b1] at b2
      exact absurd (Value.type.inj b2) (by decide)
    have hea : e ∉ [j, a] := by
      intro z
      rcases List.mem_cons.mp z with z | z
      · exact far z
      · have z := List.mem_singleton.mp z
        obtain ⟨o2, a2, b2, _⟩ := hp
        rw [← z, he] at a2
        cases a2
        exact absurd (Value.type.inj b2) (by decide)
    have hi : i < its.toArray.size := by
      rw [List.size_toArray]
      exact (List.getElem?_eq_some_iff.mp hu).1
    refine wpAny_pyNext_enum_itemC (drawsTup (A := X.A.in1) (I.ok.hd calm) j a hne its.toArray) he ⟨hj, hp⟩ hi far hea fun y h2 tk hy ho st2 hT2 _ hk => ?_
    have ey : y = u := by
      have hy : its.toArray[i]? = some y := hy
      rw [List.getElem?_toArray, hu] at hy
      exact (Option.some.inj hy).symm
    subst ey
    refine ⟨_, rfl, wpAny_letOwnedTupleGo_enum (s := { s with heap := h2, toks := tk + 1 }) ho fun h3 he3 sb => ?_⟩
    have hT3 : h3.get? s.heap.objs.size = some { cls := .type "tuple", data := .seq #[.int (k0 + (i : Nat)) tk, y] } := (sb.2 _ (Nat.ne_of_gt le)).trans hT2
    have fresh : ObjOk X.prog X.w (upd H s.heap.objs.size (.tup [.int (k0 + (i : Nat)), x])) h3 s.heap.objs.size (.tup [.int (k0 + (i : Nat)), x]) :=
      ⟨by show 2 ≤ sizeLine; decide, [.int (k0 + (i : Nat)) tk, y], .cons ⟨_, rfl⟩ (.cons ru .nil), ⟨_, hT3, rfl, _, rfl⟩⟩
    have I3 : Inv X pins σ (upd H s.heap.objs.size (.tup [.int (k0 + (i : Nat)), x])) { s with heap := h3, toks := tk + 1 } :=
      I.turnedNew (ch := [e, j]) (fun b ob hb z => (sb.2 b (fun r => hb (by simp [r]))).trans (hk b ob (fun r => hb (by simp [r])) (fun r => hb (by simp [r])) z)) hf (Nat.le_refl _) fresh
    refine ⟨.ref s.heap.objs.size, _, I3, rfl, ⟨_, x, rfl, I.hok.fresh (Nat.le_refl _), rfl, fun ys hy => by rw [I.tuple_inj hy hq]; exact hx⟩, ⟨⟨y, ?_⟩, ?_, far⟩, fun b hb => ?_⟩
    · rw [show k0 + ((i + 1 : Nat) : Int) = k0 + (i : Int) + 1 by omega]
      exact he3
    · obtain ⟨⟨o, z, r⟩, _⟩ := st2
      exact ⟨o, (sb.2 j (Ne.symm far)).trans z, r⟩
    · have lb : b < s.heap.objs.size := by
        rcases List.mem_cons.mp hb with z | z
        · rw [z]; exact le
        · rw [List.mem_singleton.mp z]; exact lj
      rw [upd_ne (Nat.ne_of_lt lb)]
      exact (hf b hb).1
  done := by
    intro X hP hw hK calm i pins s σ H E I hf st hg
    subst hP hw hK
    obtain ⟨⟨v, he⟩, hj, far⟩ := st
    obtain ⟨xs, hq, hx⟩ := hg
    obtain ⟨its, rv, hp, _⟩ := I.tuple hq
    obtain ⟨f0, f1, f2, f3, f4, f5⟩ := hf j (List.mem_cons_of_mem _ List.mem_cons_self)
    have hl := rv.length
    have hn : its.toArray[i]? = none := by
      rw [List.getElem?_toArray]
      exact List.getElem?_eq_none (by omega)
    exact wpAny_pyNext_enum_endD (drawnOut (A := X.A.in1) (I.ok.hd calm) j a its.toArray i hn) he ⟨rfl, hj, hp⟩ fun h2 eb => ⟨rfl, I.turned (t' := s.toks) (fun b o hb z => eb b o hb z) f0 f1 f3 f4 f5⟩
  self := by
    intro A i s Q E st h
    obtain ⟨⟨_, he⟩, _⟩ := st
    exact wpAny_pyIter_enum he h
def iEnumT1 (K : PySem.W.Frag) (ta tk : TA) : TI := fun σ H R => ta σ H fun vs G1 => tk σ G1 fun zs G => ∃ a xs k0, vs = [.ref a] ∧ zs = [.int k0] ∧ SqT K G a xs ∧ (-2 ^ 63 ≤ k0 ∧ k0 < 2 ^ 63) ∧ R (IteT1 K a k0) G
theorem pi_enumT1 {X : Cx} {K : PySem.W.Frag} {e ek : Expr} {ta tk : TA} {p1 p2 p3 p4 : Pos} {elts : List Expr} {kk : Nat} (hg : Gl X "enumerate") (hm : X.mg "enumerate" = none) (ha : PA X [e] ta) (hk : PK X [⟨some "start", ek, p4⟩] tk)
    (hK : X.K = K := by rfl) (star : starEach [e] X.env = (false, eval e X.env) :: starEach [] X.env := by rfl) (pl : ((backTo p2 (starEach [e] X.env)).any (·.1)) = false := by rfl)
    (k1 : ((backToKw p2 (keywordEach [⟨some "start", ek, p4⟩] X.env)).any (·.1.isNone)) = false := by rfl) (k2 : ((backToKw p2 (keywordEach [⟨some "start", ek, p4⟩] X.env)).all (·.1.isSome)) = true := by rfl) (k3 : (backToKw p2 (keywordEach [⟨some "start", ek, p4⟩] X.env)).filterMap (·.1) = ([("start" : Str)] : List Str) := by rfl) :
    PI X (.Tuple elts kk p3) (.Call (.Name "enumerate" p1) [e] [⟨some "start", ek, p4⟩] p2) (iEnumT1 K ta tk) := by
  subst hK
  constructor
  intro pins s σ H R I h
  refine wpAny_Call_Name_kw (ld_blt I hg hm boot_enumerate (callWith_type_kw pl k1 (PyProof.Rows.evalArgs_kw2 k2 (thn (ha.run p2 pins s σ H _ I h) fun us t1 ⟨vs, G1, J1, rr, q1⟩ => thn (hk.run p2 pins t1 σ G1 _ J1 q1) fun ks t ⟨zs, G, J, rk, qq⟩ => ?_) star)))
  rw [k3]
  obtain ⟨a, xs, k0, rfl, rfl, hq, ⟨b0, b1⟩, q⟩ := qq
  cases rr with
  | cons r rr =>
    cases rr
    cases r
    cases rk with
    | cons rk1 rk2 =>
    cases rk2
    obtain ⟨tk0, rfl⟩ := rk1
    obtain ⟨its, rv, hp, _⟩ := J.tuple hq
    refine enum_begins_start (begins_tuple a its.toArray) (show t.heap.IsTuple a its.toArray from hp) b0 b1 fun h2 he hj hsz hkp => wpAny_pyIter_enum he ?_
    have J2 : Inv X pins σ G { t with heap := h2 } := J.kept (t' := t.toks) hkp
    refine ⟨t.heap.objs.size + 1, [t.heap.objs.size + 1, t.heap.objs.size], _, _, G, rfl, J2, turnEnumT1 a (t.heap.objs.size + 1) t.heap.objs.size k0, ⟨⟨.none, by rw [show k0 + ((0 : Nat) : Int) = k0 by omega]; exact he⟩, ⟨_, hj, rfl, rfl⟩, Nat.succ_ne_self _⟩, fun b hb => ?_, q⟩
    have lb : t.heap.objs.size ≤ b := by
      rcases List.mem_cons.mp hb with z | z
      · rw [z]; exact Nat.le_succ _
      · rw [List.mem_singleton.mp z]; exact Nat.le_refl _
    exact J.fpOk lb (J.hok.fresh lb)
theorem walk_enumT1 {K : PySem.W.Frag} {a : Addr} {k0 : Int} {xs : List V} : Walk (IteT1 K a k0) xs.length (fun H => SqT K H a xs) (YPair (fun i => some (.int (k0 + (i : Nat)))) (fun i => xs[i]?)) where
  goes i H hi q := ⟨xs, xs[i], q, List.getElem?_eq_getElem hi⟩
  stops H q := ⟨xs, q, Nat.le_refl _⟩
  yields i H v H' _ q y := by
    obtain ⟨t, x, h1, h2, h3, h4⟩ := y
    exact ⟨t, .int (k0 + (i : Nat)), x, h1, h2, h3, rfl, h4 xs q⟩
end FF
namespace FF
open PySem PySem.Spec PyProof.Rows L2
variable [LT]
/-! ### even ways: lots that are closed; things known to the object to any need -/
inductive ThQ (H : Hp) : V → Option (List V) → Prop where
  | no {v : V} {nm : String} (h : TyF H v nm) (hn : nm ≠ "tuple") : ThQ H v none
  | yes {a : Addr} {xs : List V} (h : TQ H a xs) (hl : xs.length ≤ 1000) (hx : ∀ x ∈ xs, ∃ n, TyF H x n) : ThQ H (.ref a) (some xs)
theorem ThQ.mono {H H' : Hp} {v : V} {o : Option (List V)} (h : ThQ H v o) (kq : ∀ q xs, TQ H q xs → TQ H' q xs) (y : ∀ v n, TyF H v n → TyF H' v n) : ThQ H' v o := by
  cases h with
  | no h hn => exact .no (y _ _ h) hn
  | yes h hl hx => exact .yes (kq _ _ h) hl fun x hm => (hx x hm).imp fun _ z => y _ _ z
theorem ThQ.ke {H H' : Hp} {v : V} {o : Option (List V)} (h : ThQ H v o) (k : Ke H H') : ThQ H' v o := h.mono (fun _ _ z => z.ke k) fun _ _ z => z.ke k
theorem ThQ.k {K : PySem.W.Frag} {H : Hp} {v : V} {o : Option (List V)} (h : ThQ H v o) : ThG K H v o := by
  cases h with
  | no h hn => exact .no h hn
  | yes h _ hx => exact .yes h.sq (h.ty).x hx
theorem ThF.q {H : Hp} {v : V} {o : Option (List V)} (h : ThF H v o) (hl : ∀ xs, o = some xs → xs.length ≤ 1000) : ThQ H v o := by
  cases h with
  | no h hn => exact .no h hn
  | yes h hx => exact .yes (.inr h) (hl _ rfl) hx
/-- a thing looked at as lots -/
inductive LQ (H : Hp) : V → Option (List (V × Option (List V))) → Prop where
  | no {v : V} {nm : String} (h : TyF H v nm) (hn : nm ≠ "tuple") : LQ H v none
  | yes {a : Addr} {ls : List (V × Option (List V))} (h : TQ H a (ls.map Prod.fst)) (hx : ∀ p ∈ ls, ThQ H p.1 p.2) : LQ H (.ref a) (some ls)
theorem LQ.mono {H H' : Hp} {v : V} {o : Option (List (V × Option (List V)))} (h : LQ H v o) (kq : ∀ q xs, TQ H q xs → TQ H' q xs) (y : ∀ v n, TyF H v n → TyF H' v n) : LQ H' v o := by
  cases h with
  | no h hn => exact .no (y _ _ h) hn
  | yes h hx => exact .yes (kq _ _ h) fun p hp => (hx p hp).mono kq y
theorem LQ.ke {H H' : Hp} {v : V} {o : Option (List (V × Option (List V)))} (h : LQ H v o) (k : Ke H H') : LQ H' v o := h.mono (fun _ _ z => z.ke k) fun _ _ z => z.ke k
/-- a thing looked at as ways and lots -/
inductive M2Q (H : Hp) : V → Option (Option (List V) × Option (List (V × Option (List V)))) → Prop where
  | no {v : V} {nm : String} (h : TyF H v nm) (hn : nm ≠ "tuple") : M2Q H v none
  | len {a : Addr} {xs : List V} (h : TQ H a xs) (hl : xs.length ≠ 2) : M2Q H (.ref a) none
  | yes {a : Addr} {x y : V} {ox : Option (List V)} {oy : Option (List (V × Option (List V)))} (h : TQ H a [x, y]) (hx : ThF H x ox) (hy : LQ H y oy) : M2Q H (.ref a) (some (ox, oy))
theorem M2Q.ke {H H' : Hp} {v : V} {o : Option (Option (List V) × Option (List (V × Option (List V))))} (h : M2Q H v o) (k : Ke H H') : M2Q H' v o := by
  cases h with
  | no h hn => exact .no (h.ke k) hn
  | len h hl => exact .len (h.ke k) hl
  | yes h hx hy => exact .yes (h.ke k) (hx.ke k) (hy.ke k)
/-- a root: a point, or None -/
def RootV (v : V) : Prop := v = .non ∨ ∃ i, v = .int i
def grp (root : V) (t : Int × Int) : List Int := [t.1, t.2].filter fun e => !decide (V.int e = root)
def heldF (root : V) (ws : List Int) (ts : List (Int × Int)) : List (Int × List Int) := ws.zip (ts.map (grp root))
def HeldP (H : Hp) (rs : List V) (hs : List (Int × List Int)) : Prop := Paired (fun (r : V) (h : Int × List Int) => ∃ q g, r = .ref q ∧ H q = some (.tup [.int h.1, .ref g]) ∧ H g = some (.lst (h.2.map V.int))) rs hs
theorem HeldP.ke {H H' : Hp} {rs : List V} {hs : List (Int × List Int)} (h : HeldP H rs hs) (k : Ke H H') : HeldP H' rs hs := L2.Paired.mapP h fun _ _ ⟨q, g, e, z, z2⟩ => ⟨q, g, e, k.tup z, k.lst z2⟩
theorem HeldP.length {H : Hp} {rs : List V} {hs : List (Int × List Int)} (h : HeldP H rs hs) : rs.length = hs.length := Paired.length h
theorem HeldP.get {H : Hp} : ∀ {rs : List V} {hs : List (Int × List Int)} {i : Nat} {r : V}, HeldP H rs hs → rs[i]? = some r → ∃ h q g, hs[i]? = some h ∧ r = .ref q ∧ H q = some (.tup [.int h.1, .ref g]) ∧ H g = some (.lst (h.2.map V.int))
  | _, _, 0, _, .cons (b := h) ⟨q, g, e1, e2, e3⟩ _, e => by simp at e; subst e; exact ⟨h, q, g, rfl, e1, e2, e3⟩
  | _, _, i + 1, r, .cons _ t, e => by
    obtain ⟨u, q, g, h1, h2, h3, h4⟩ := HeldP.get (i := i) (r := r) t (by simpa using e)
    exact ⟨u, q, g, by simpa using h1, h2, h3, h4⟩
theorem HeldP.snoc {H : Hp} {rs : List V} {hs : List (Int × List Int)} {q g : Addr} {h : Int × List Int} (a : HeldP H rs hs) (e : H q = some (.tup [.int h.1, .ref g])) (e2 : H g = some (.lst (h.2.map V.int))) : HeldP H (rs ++ [.ref q]) (hs ++ [h]) := by
  unfold HeldP at *
  induction a with
  | nil => exact .cons ⟨q, g, rfl, e, e2⟩ .nil
  | cons r _ ih => exact .cons r ih
def HeldN (D : Addr) (H : Hp) (rs : List V) (hs : List (Int × List Int)) : Prop := Paired (fun (r : V) (h : Int × List Int) => ∃ q g, r = .ref q ∧ H q = some (.tup [.int h.1, .ref g]) ∧ H g = some (.lst (h.2.map V.int)) ∧ g ≠ D) rs hs
theorem HeldN.ke {D : Addr} {H H' : Hp} {rs : List V} {hs : List (Int × List Int)} (h : HeldN D H rs hs) (k : Ke H H') : HeldN D H' rs hs := L2.Paired.mapP h fun _ _ ⟨q, g, e, z, z2, n⟩ => ⟨q, g, e, k.tup z, k.lst z2, n⟩
theorem HeldN.put {D : Addr} {H : Hp} {rs xs ys : List V} {hs : List (Int × List Int)} (h : HeldN D H rs hs) (hD : H D = some (.lst xs)) : HeldN D (upd H D (.lst ys)) rs hs := L2.Paired.mapP h fun _ _ ⟨q, g, e, z, z2, n⟩ => ⟨q, g, e, by rw [upd_ne (ne_of z hD fun y => nomatch y)]; exact z, by rw [upd_ne n]; exact z2, n⟩
theorem HeldN.p {D : Addr} {H : Hp} {rs : List V} {hs : List (Int × List Int)} (h : HeldN D H rs hs) : HeldP H rs hs := L2.Paired.mapP h fun _ _ ⟨q, g, e, z, z2, _⟩ => ⟨q, g, e, z, z2⟩
theorem HeldN.length {D : Addr} {H : Hp} {rs : List V} {hs : List (Int × List Int)} (h : HeldN D H rs hs) : rs.length = hs.length := Paired.length h
theorem HeldN.snoc {D : Addr} {H : Hp} {rs : List V} {hs : List (Int × List Int)} {q g : Addr} {h : Int × List Int} (a : HeldN D H rs hs) (e : H q = some (.tup [.int h.1, .ref g])) (e2 : H g = some (.lst (h.2.map V.int))) (n : g ≠ D) : HeldN D H (rs ++ [.ref q]) (hs ++ [h]) := by
  unfold HeldN at *
  induction a with
  | nil => exact .cons ⟨q, g, rfl, e, e2, n⟩ .nil
  | cons r _ ih => exact .cons r ih
/-- a point and a lot, for a share -/
def ptB (sh : List Int) (q : Int) (ls : List Int) (p : Nat) : Bool := !((decide (q < hat sh (p : Int)) && !decide ((p : Int) ∈ ls)) || (decide (hat sh (p : Int) < q) && decide ((p : Int) ∈ ls)))
def heB (ls : List Int) (e : Int × List Int) : Bool := !decide (e.1 ∈ ls) || e.2.all fun p => decide (p ∈ ls)
def closB (n : Int) (held : List (Int × List Int)) (sh : List Int) (q : Int) : Option (List V) → Bool
  | none => false
  | some xs => lotO n (some xs) && ((List.range n.toNat).all (ptB sh q (intsOf xs)) && held.all (heB (intsOf xs)))
def topF (sh : List Int) : Int := if mx sh - 1 > 0 then mx sh - 1 else 0
def areB (n : Int) (held : List (Int × List Int)) : Option (List (V × Option (List V))) → Bool
  | none => false
  | some ls => decide ((ls.length : Int) = topF (outsL n (held.map Prod.fst))) && (List.range ls.length).all fun i => closB n held (outsL n (held.map Prod.fst)) (1 + (i : Int)) (ls.getD i (.non, none)).2
def evenB (ts : List (Int × Int)) (n : Int) (root : V) : Option (Option (List V) × Option (List (V × Option (List V)))) → Bool
  | none => false
  | some (ox, oy) => waysO ts ox && (!inV root (ox.getD []) && areB n (heldF root (intsOf (ox.getD [])) ts) oy)
theorem lotO_inv {n : Int} {o : Option (List V)} (h : lotO n o = true) : ∃ ls : List Int, o = some (ls.map V.int) ∧ ls ≠ [] ∧ ls.Pairwise (· < ·) ∧ ∀ x ∈ ls, 0 ≤ x ∧ x < n := by
  cases o with
  | none => cases h
  | some xs =>
    obtain ⟨hne, hr⟩ := lotO_rising h
    have e := rising_ints hr
    have l := rising_low hr
    refine ⟨intsOf xs, by rw [← e], fun z => hne (by rw [e, z]; rfl), l.1, l.2⟩
theorem waysO_inv {ts : List (Int × Int)} {o : Option (List V)} (h : waysO ts o = true) : ∃ ws : List Int, o = some (ws.map V.int) ∧ WOk ts ws := by
  cases o with
  | none => cases h
  | some xs =>
    obtain ⟨e, w⟩ := ends_ints (show endsB ts xs = true from h)
    exact ⟨intsOf xs, by rw [← e], w⟩
theorem closB_in {n : Int} {held : List (Int × List Int)} {sh : List Int} {q : Int} {ls : List Int} (h : lotO n (some (ls.map V.int)) = true) : closB n held sh q (some (ls.map V.int)) = ((List.range n.toNat).all (ptB sh q ls) && held.all (heB ls)) := by
  show (lotO n (some (ls.map V.int)) && ((List.range n.toNat).all (ptB sh q (intsOf (ls.map V.int))) && held.all (heB (intsOf (ls.map V.int))))) = _
  rw [h, intsOf_map]
  rfl
theorem closB_no {n : Int} {held : List (Int × List Int)} {sh : List Int} {q : Int} {o : Option (List V)} (h : lotO n o = false) : closB n held sh q o = false := by
  cases o with
  | none => rfl
  | some xs =>
    show (lotO n (some xs) && _) = false
    rw [h]
    rfl
end FF
namespace FF
open PySem PySem.Spec PyProof.Rows L2
variable [LT]
/-! ### ways made even: leads, what one comes to, paths turned -/
def oE (t : Int × Int) (w : Int) : Int := t.1 + t.2 - w
def leadsF (ts : List (Int × Int)) (ws : List Int) : List (Int × Int) := (ts.zip ws).map fun p => (p.2, oE p.1 p.2)
theorem leads_mem {ts : List (Int × Int)} {ws : List Int} {a b : Int} : (a, b) ∈ leadsF ts ws ↔ ∃ (i : Nat) (t : Int × Int), ts[i]? = some t ∧ ws[i]? = some a ∧ b = oE t a := by
  unfold leadsF
  constructor
  · intro h
    obtain ⟨⟨t, w⟩, hp, e⟩ := List.mem_map.mp h
    obtain ⟨i, hi⟩ := List.getElem?_of_mem hp
    rw [List.getElem?_zip_eq_some] at hi
    cases e
    exact ⟨i, t, hi.1, hi.2, rfl⟩
  · rintro ⟨i, t, h1, h2, rfl⟩
    exact List.mem_map.mpr ⟨(t, a), List.mem_of_getElem? (i := i) (by rw [List.getElem?_zip_eq_some]; exact ⟨h1, h2⟩), rfl⟩
theorem WOk.other {n : Int} {ts : List (Int × Int)} {ws : List Int} (h : WOk ts ws) (ok : TOk n ts) {i : Nat} {t : Int × Int} {w : Int} (h1 : ts[i]? = some t) (h2 : ws[i]? = some w) : (oE t w = t.1 ∨ oE t w = t.2) ∧ oE t w ≠ w ∧ 0 ≤ oE t w ∧ oE t w < n := by
  obtain ⟨a, b, c⟩ := ok t (List.mem_of_getElem? h1)
  unfold oE
  rcases h.2 i t w h1 h2 with rfl | rfl
  · exact ⟨.inr (by omega), by omega, by omega, by omega⟩
  · exact ⟨.inl (by omega), by omega, by omega, by omega⟩
theorem leads_bd {n : Int} {ts : List (Int × Int)} {ws : List Int} (h : WOk ts ws) (ok : TOk n ts) {a b : Int} (hm : (a, b) ∈ leadsF ts ws) : (0 ≤ a ∧ a < n) ∧ (0 ≤ b ∧ b < n) := by
  obtain ⟨i, t, h1, h2, rfl⟩ := leads_mem.mp hm
  exact ⟨h.bd ok a (List.mem_of_getElem? h2), (h.other ok h1 h2).2.2⟩
/-- what one comes to along leads -/
inductive Cm (ls : List (Int × Int)) (ss : List Int) : Int → Prop where
  | base {x : Int} : x ∈ ss → Cm ls ss x
  | step {x y : Int} : Cm ls ss x → (x, y) ∈ ls → Cm ls ss y
theorem Cm.one {ls : List (Int × Int)} {ss : List Int} {x : Int} (h : Cm ls ss x) : ∃ s ∈ ss, Cm ls [s] x := by
  induction h with
  | base h => exact ⟨_, h, .base List.mem_cons_self⟩
  | step _ e ih =>
    obtain ⟨s, hs, h⟩ := ih
    exact ⟨s, hs, h.step e⟩
/-- what come_to tells: each point once, all that one comes to -/
structure ComeR (n : Int) (ls : List (Int × Int)) (ss R : List Int) : Prop where
  nd : R.Nodup
  bd : ∀ x ∈ R, 0 ≤ x ∧ x < n
  sub : ∀ x ∈ R, Cm ls ss x
  base : ∀ x ∈ ss, x ∈ R
  step : ∀ x y, x ∈ R → (x, y) ∈ ls → y ∈ R
theorem ComeR.all {n : Int} {ls : List (Int × Int)} {ss R : List Int} (h : ComeR n ls ss R) {x : Int} (c : Cm ls ss x) : x ∈ R := by
  induction c with
  | base e => exact h.base _ e
  | step _ e ih => exact h.step _ _ ih e
/-- a path of ties from s to x, by way of the points ps -/
inductive WP (ts : List (Int × Int)) (ws : List Int) (s : Int) : Int → List Int → List Int → Prop where
  | nil : WP ts ws s s [] []
  | snoc {x : Int} {es ps : List Int} {e : Nat} {t : Int × Int} : WP ts ws s x es ps → ts[e]? = some t → ws[e]? = some x → oE t x ∉ ps → oE t x ≠ x → WP ts ws s (oE t x) (es ++ [(e : Int)]) (ps ++ [x])
theorem WP.inv {ts : List (Int × Int)} {ws : List Int} {s x : Int} {es ps : List Int} (h : WP ts ws s x es ps) : x ∉ ps ∧ ∀ e ∈ es, ∃ i : Nat, e = (i : Int) ∧ i < ts.length ∧ ∃ w ∈ ps, ws[i]? = some w := by
  induction h with
  | nil => exact ⟨List.not_mem_nil, fun _ z => nomatch z⟩
  | @snoc x es ps e t h h1 h2 h3 h4 ih =>
    obtain ⟨a, b⟩ := ih
    refine ⟨fun z => ?_, fun e' he => ?_⟩
    · rcases List.mem_append.mp z with z | z
      · exact h3 z
      · exact h4 (List.mem_singleton.mp z)
    · rcases List.mem_append.mp he with z | z
      · obtain ⟨i, rfl, il, w, hw, hi⟩ := b e' z
        exact ⟨i, rfl, il, w, List.mem_append_left _ hw, hi⟩
      · rw [List.mem_singleton.mp z]
        exact ⟨e, rfl, (List.getElem?_eq_some_iff.mp h1).1, x, List.mem_append_right _ List.mem_cons_self, h2⟩
/-- ties turned one after another -/
def turnL (ts : List (Int × Int)) (ws : List Int) (es : List Int) : List Int := es.foldl (fun us e => us.set e.toNat (oE (tk ts e) (ws.getD e.toNat 0))) ws
theorem turnL_len {ts : List (Int × Int)} {ws : List Int} (es : List Int) : (turnL ts ws es).length = ws.length := by
  unfold turnL
  generalize hu : ws = us
  have : ∀ (us : List Int), (es.foldl (fun us e => us.set e.toNat (oE (tk ts e) (ws.getD e.toNat 0))) us).length = us.length := by
    induction es with
    | nil => exact fun _ => rfl
    | cons e r ih => exact fun us => by rw [List.foldl_cons, ih, List.length_set]
  rw [← hu]
  exact this ws
theorem turnL_snoc {ts : List (Int × Int)} {ws : List Int} {es : List Int} {e : Int} : turnL ts ws (es ++ [e]) = (turnL ts ws es).set e.toNat (oE (tk ts e) (ws.getD e.toNat 0)) := by
  unfold turnL
  rw [List.foldl_append]
  rfl
theorem turnL_get {ts : List (Int × Int)} {ws : List Int} : ∀ {es : List Int} {i : Nat}, (∀ e ∈ es, 0 ≤ e) → (i : Int) ∉ es → (turnL ts ws es)[i]? = ws[i]? := by
  intro es
  have : ∀ (es us : List Int) (i : Nat), (∀ e ∈ es, 0 ≤ e) → (i : Int) ∉ es → (es.foldl (fun us e => us.set e.toNat (oE (tk ts e) (ws.getD e.toNat 0))) us)[i]? = us[i]? := by
    intro es
    induction es with
    | nil => exact fun _ _ _ _ => rfl
    | cons e r ih =>
      intro us i h0 h
      rw [List.foldl_cons, ih _ _ (fun x hx => h0 x (List.mem_cons_of_mem _ hx)) fun z => h (List.mem_cons_of_mem _ z), List.getElem?_set_ne]
      intro z
      have := h0 e List.mem_cons_self
      exact h (by rw [show (i : Int) = e by omega]; exact List.mem_cons_self)
  intro i h0 h
  exact this es ws i h0 h
theorem count_set_move {us : List Int} {i : Nat} {x y : Int} (h : us[i]? = some x) (p : Int) : (us.set i y).count p + (if p = x then 1 else 0) = us.count p + (if p = y then 1 else 0) := by
  induction us generalizing i with
  | nil => cases h
  | cons a r ih =>
    cases i with
    | zero =>
      cases h
      rw [List.set_cons_zero, List.count_cons, List.count_cons]
      by_cases c1 : p = x <;> by_cases c2 : p = y
      · simp [c1, ← c2]
      · rw [if_pos c1, if_neg c2]
        simp [c1]
        intro z
        exact absurd (c1.trans z.symm) c2
      · rw [if_neg c1, if_pos c2]
        simp [c2]
        intro z
        exact absurd (c2.trans z.symm) c1
      · rw [if_neg c1, if_neg c2]
        simp
        have e1 : ¬ y = p := fun z => c2 z.symm
        have e2 : ¬ x = p := fun z => c1 z.symm
        simp [e1, e2]
    | succ i =>
      rw [List.set_cons_succ, List.count_cons, List.count_cons]
      have := ih (i := i) (by simpa using h)
      omega
/-- behind a path turned: one out less at its start, one more at its end -/
theorem WP.turn {n : Int} {ts : List (Int × Int)} {ws : List Int} {s x : Int} {es ps : List Int} (h : WP ts ws s x es ps) (ok : TOk n ts) (hw : WOk ts ws) : WOk ts (turnL ts ws es) ∧ ∀ p, (turnL ts ws es).count p + (if p = s then 1 else 0) = ws.count p + (if p = x then 1 else 0) := by
  induction h with
  | nil => exact ⟨hw, fun p => rfl⟩
  | @snoc x es ps e t h h1 h2 h3 h4 ih =>
    obtain ⟨a, b⟩ := ih
    obtain ⟨i1, i2⟩ := h.inv
    have ne : (e : Int) ∉ es := fun z => by
      obtain ⟨i, e1, il, w, hw2, hi⟩ := i2 _ z
      have : e = i := by omega
      subst this
      rw [h2] at hi
      cases hi
      exact i1 hw2
    have h0 : ∀ e ∈ es, 0 ≤ e := fun e he => by
      obtain ⟨i, rfl, _⟩ := i2 e he
      omega
    have hg := turnL_get (ts := ts) (ws := ws) h0 ne
    rw [h2] at hg
    have etk : tk ts (e : Int) = t := by
      show ts.getD ((e : Int)).toNat (0, 0) = _
      rw [Int.toNat_natCast, List.getD_eq_getElem?_getD, h1]
      rfl
    have egd : ws.getD e 0 = x := by rw [List.getD_eq_getElem?_getD, h2]; rfl
    rw [turnL_snoc, Int.toNat_natCast, etk, egd]
    have hel : e < (turnL ts ws es).length := (List.getElem?_eq_some_iff.mp hg).1
    refine ⟨⟨by rw [List.length_set]; exact a.1, fun i t' w' e1 e2 => ?_⟩, fun p => ?_⟩
    · by_cases ci : i = e
      · subst ci
        rw [List.getElem?_set_self hel] at e2
        cases e2
        rw [h1] at e1
        cases e1
        exact (hw.other ok h1 h2).1
      · rw [List.getElem?_set_ne (by omega)] at e2
        exact a.2 i t' w' e1 e2
    · have c1 := count_set_move (y := oE t x) hg p
      have c2 := b p
      omega
end FF
namespace FF
open PySem PySem.Spec PyProof.Rows L2
variable [LT]
/-! ### a search along ways, with the path to each point -/
structure SrT (n : Int) (ts : List (Int × Int)) (ws : List Int) (s : Int) (H : Hp) (fl : List (Int × Addr)) : Prop where
  nd : (fl.map Prod.fst).Nodup
  rng : ∀ x ∈ fl.map Prod.fst, 0 ≤ x ∧ x < n
  way : ∀ p ∈ fl, ∃ es ps : List Int, H p.2 = some (.tup (es.map V.int)) ∧ WP ts ws s p.1 es ps ∧ (∀ x ∈ ps, x ∈ fl.map Prod.fst) ∧ es.length < fl.length
  first : s ∈ fl.map Prod.fst
theorem SrT.ke {n : Int} {ts : List (Int × Int)} {ws : List Int} {s : Int} {H H' : Hp} {fl : List (Int × Addr)} (h : SrT n ts ws s H fl) (k : ∀ q xs, H q = some (.tup xs) → H' q = some (.tup xs)) : SrT n ts ws s H' fl :=
  ⟨h.nd, h.rng, fun p hp => by
    obtain ⟨es, ps, e, r⟩ := h.way p hp
    exact ⟨es, ps, k _ _ e, r⟩, h.first⟩
theorem SrT.len {n : Int} {ts : List (Int × Int)} {ws : List Int} {s : Int} {H : Hp} {fl : List (Int × Addr)} (h : SrT n ts ws s H fl) : fl.length ≤ n.toNat := by
  have := nd_le h.nd (m := upTo n) fun x hx => List.mem_map.mpr ⟨x.toNat, List.mem_range.mpr (by have := h.rng x hx; omega), by have := h.rng x hx; omega⟩
  rw [List.length_map, upTo_length] at this
  exact this
theorem SrT.start {n : Int} {ts : List (Int × Int)} {ws : List Int} {s : Int} {H : Hp} {c : Addr} (a0 : 0 ≤ s) (a1 : s < n) (h : H c = some (.tup [])) : SrT n ts ws s H [(s, c)] :=
  ⟨by simp, fun x hx => by simp at hx; omega, fun p hp => by
    rw [List.mem_singleton.mp hp]
    exact ⟨[], [], h, .nil, (fun _ z => nomatch z), Nat.zero_lt_one⟩, by simp⟩
theorem SrT.at_ {n : Int} {ts : List (Int × Int)} {ws : List Int} {s : Int} {H : Hp} {fl : List (Int × Addr)} (h : SrT n ts ws s H fl) {x : Int} (hx : x ∈ fl.map Prod.fst) : ∃ (c : Addr) (es ps : List Int), valV (kvF fl) (Sum.inl x) = some (.ref c) ∧ H c = some (.tup (es.map V.int)) ∧ WP ts ws s x es ps ∧ (∀ x ∈ ps, x ∈ fl.map Prod.fst) ∧ es.length < fl.length := by
  obtain ⟨p, hp, rfl⟩ := List.mem_map.mp hx
  obtain ⟨es, ps, e, r⟩ := h.way p hp
  exact ⟨p.2, es, ps, val_in h.nd hp, e, r⟩
theorem SrT.add {n : Int} {ts : List (Int × Int)} {ws : List Int} {s : Int} {H : Hp} {fl : List (Int × Addr)} (h : SrT n ts ws s H fl) {x : Int} {es ps : List Int} {c : Addr} {e : Nat} {t : Int × Int} (hx : x ∈ fl.map Prod.fst) (hw : WP ts ws s x es ps) (hps : ∀ x ∈ ps, x ∈ fl.map Prod.fst) (hel : es.length < fl.length) (h1 : ts[e]? = some t) (h2 : ws[e]? = some x) (hy : oE t x ∉ fl.map Prod.fst) (y0 : 0 ≤ oE t x ∧ oE t x < n) (hc : H c = some (.tup ((es ++ [(e : Int)]).map V.int))) : SrT n ts ws s H (fl ++ [(oE t x, c)]) := by
  have ek : (fl ++ [(oE t x, c)]).map Prod.fst = fl.map Prod.fst ++ [oE t x] := by rw [List.map_append]; rfl
  have el : (fl ++ [(oE t x, c)]).length = fl.length + 1 := by rw [List.length_append]; rfl
  refine ⟨?_, fun z hz => ?_, fun p hp => ?_, ?_⟩
  · rw [ek]
    exact nd_snoc h.nd hy
  · rw [ek] at hz
    rcases List.mem_append.mp hz with hz | hz
    · exact h.rng z hz
    · rw [List.mem_singleton.mp hz]
      exact y0
  · rw [ek, el]
    rcases List.mem_append.mp hp with hp | hp
    · obtain ⟨es', ps', a, b, d, f⟩ := h.way p hp
      exact ⟨es', ps', a, b, fun x hx => List.mem_append_left _ (d x hx), by omega⟩
    · rw [List.mem_singleton.mp hp]
      refine ⟨es ++ [(e : Int)], ps ++ [x], hc, .snoc hw h1 h2 (fun z => hy (hps _ z)) (fun z => hy (by rw [z]; exact hx)), fun z hz => ?_, by rw [List.length_append]; show es.length + 1 < _; omega⟩
      rcases List.mem_append.mp hz with hz | hz
      · exact List.mem_append_left _ (hps z hz)
      · rw [List.mem_singleton.mp hz]
        exact List.mem_append_left _ hx
  · rw [ek]
    exact List.mem_append_left _ h.first
/-- the sum of the squares of the outs: what an evening makes less -/
def sqO (n : Int) (ws : List Int) : Nat := ((upTo n).map fun p => ws.count p * ws.count p).sum
theorem sum_two {ls : List Int} (nd : ls.Nodup) {f g : Int → Nat} {s x : Int} (hs : s ∈ ls) (hx : x ∈ ls) (ne : s ≠ x) (h : ∀ p, p ≠ s → p ≠ x → f p = g p) : (ls.map f).sum + g s + g x = (ls.map g).sum + f s + f x := by
  have one : ∀ (ls : List Int) (y : Int), ls.Nodup → y ∈ ls → ∀ (f g : Int → Nat), (∀ p, p ∈ ls → p ≠ y → f p = g p) → (ls.map f).sum + g y = (ls.map g).sum + f y := by
    intro ls
    induction ls with
    | nil => exact fun y _ h => nomatch h
    | cons a r ih =>
      intro y nd hy f g h
      have nd2 := List.nodup_cons.mp nd
      rw [List.map_cons, List.sum_cons, List.map_cons, List.sum_cons]
      by_cases c : a = y
      · subst c
        have : r.map f = r.map g := List.map_congr_left fun p hp => h p (List.mem_cons_of_mem _ hp) fun z => nd2.1 (z ▸ hp)
        rw [this]
        omega
      · have := ih y nd2.2 ((List.mem_cons.mp hy).resolve_left fun z => c z.symm) f g fun p hp => h p (List.mem_cons_of_mem _ hp)
        have := h a List.mem_cons_self c
        omega
  let m : Int → Nat := fun p => if p = s then g p else f p
  have h1 := one ls s nd hs f m fun p _ hp => by show f p = if p = s then g p else f p; rw [if_neg hp]
  have h2 := one ls x nd hx m g fun p _ hp => by
    show (if p = s then g p else f p) = g p
    by_cases c : p = s
    · rw [if_pos c]
    · rw [if_neg c, h p c hp]
  have e1 : m s = g s := if_pos rfl
  have e2 : m x = f x := if_neg fun z => ne z.symm
  rw [e1] at h1
  rw [e2] at h2
  omega
theorem sqO_less {n : Int} {ws us : List Int} {s x : Int} (s0 : 0 ≤ s ∧ s < n) (x0 : 0 ≤ x ∧ x < n) (ne : s ≠ x) (h : ∀ p, us.count p + (if p = s then 1 else 0) = ws.count p + (if p = x then 1 else 0)) (hd : ws.count x + 2 ≤ ws.count s) : sqO n us < sqO n ws := by
  have hs := h s
  have hx := h x
  rw [if_pos rfl, if_neg ne] at hs
  rw [if_neg fun z => ne z.symm, if_pos rfl] at hx
  have key := sum_two (upTo_nd n) (f := fun p => us.count p * us.count p) (g := fun p => ws.count p * ws.count p) (upTo_mem.mpr s0) (upTo_mem.mpr x0) ne fun p h1 h2 => by
    have := h p
    rw [if_neg h1, if_neg h2] at this
    show us.count p * us.count p = ws.count p * ws.count p
    rw [show us.count p = ws.count p by omega]
  unfold sqO
  have e1 : us.count x = ws.count x + 1 := by omega
  obtain ⟨c, hc⟩ : ∃ c, ws.count s = c + 1 := ⟨ws.count s - 1, by omega⟩
  have e2 : us.count s = c := by omega
  rw [e1, e2, hc] at key
  have m1 : (c + 1) * (c + 1) = c * c + 2 * c + 1 := by rw [Nat.add_mul, Nat.mul_add]; omega
  have m2 : (ws.count x + 1) * (ws.count x + 1) = ws.count x * ws.count x + 2 * ws.count x + 1 := by rw [Nat.add_mul, Nat.mul_add]; omega
  rw [m1, m2] at key
  omega
theorem Cm.mem {ls : List (Int × Int)} {ss fl : List Int} {x : Int} (h : Cm ls ss x) (h1 : ∀ y ∈ fl, ∀ z, (y, z) ∈ ls → z ∈ fl) (h2 : ∀ s ∈ ss, s ∈ fl) : x ∈ fl := by
  induction h with
  | base e => exact h2 _ e
  | step _ e ih => exact h1 _ ih _ e
end FF
namespace FF
open PySem PySem.Spec PyProof.Rows L2
variable [LT]
/-! ### things looked into to any depth, whatever the object knows of their tuples -/
def DQ : Nat → Hp → V → Prop
  | 0, H, v => ∃ n, TyF H v n
  | d + 1, H, v => (∃ n, TyF H v n ∧ n ≠ "tuple") ∨ ∃ a xs, v = .ref a ∧ TQ H a xs ∧ xs.length ≤ 1000 ∧ ∀ x ∈ xs, DQ d H x
theorem TQ.put {H : Hp} {p a : Addr} {xs ys zs : List V} (h : TQ H a xs) (k : H p = some (.lst ys)) : TQ (upd H p (.lst zs)) a xs := h.elim (fun e => .inl (by rw [upd_ne (ne_of e k (fun z => nomatch z))]; exact e)) fun z => .inr (z.put k)
theorem DQ.ty : ∀ {d : Nat} {H : Hp} {v : V}, DQ d H v → ∃ n, TyF H v n
  | 0, _, _, h => h
  | _ + 1, _, _, .inl ⟨n, h, _⟩ => ⟨n, h⟩
  | _ + 1, _, _, .inr ⟨_, _, e, h, _, _⟩ => ⟨"tuple", by rw [e]; exact h.ty⟩
theorem DQ.down : ∀ {d : Nat} {H : Hp} {v : V}, DQ (d + 1) H v → DQ d H v
  | 0, _, _, h => h.ty
  | _ + 1, _, _, .inl h => .inl h
  | _ + 1, _, _, .inr ⟨a, xs, e, h, hl, hx⟩ => .inr ⟨a, xs, e, h, hl, fun x hm => (hx x hm).down⟩
theorem DQ.mono : ∀ {d : Nat} {H H' : Hp} {v : V}, DQ d H v → (∀ q xs, TQ H q xs → TQ H' q xs) → (∀ v n, TyF H v n → TyF H' v n) → DQ d H' v
  | 0, _, _, _, ⟨n, h⟩, _, y => ⟨n, y _ _ h⟩
  | _ + 1, _, _, _, .inl ⟨n, h, hn⟩, _, y => .inl ⟨n, y _ _ h, hn⟩
  | _ + 1, _, _, _, .inr ⟨a, xs, e, h, hl, hx⟩, k, y => .inr ⟨a, xs, e, k _ _ h, hl, fun x hm => (hx x hm).mono k y⟩
theorem DQ.ke {d : Nat} {H H' : Hp} {v : V} (h : DQ d H v) (k : Ke H H') : DQ d H' v := h.mono (fun _ _ z => z.ke k) fun _ _ z => z.ke k
theorem DQ.put {d : Nat} {H : Hp} {p : Addr} {xs ys : List V} {v : V} (h : DQ d H v) (k : H p = some (.lst xs)) : DQ d (upd H p (.lst ys)) v := h.mono (fun _ _ z => z.put k) fun _ _ z => z.put k
theorem DQ.dk {d : Nat} {H H' : Hp} {p : Addr} {v : V} (h : DQ d H v) (k : Dk p H H') (g : Deck H p) : DQ d H' v := h.mono (fun _ _ z => z.dk k g) fun _ _ z => z.dk k g
theorem DQ.tup {d : Nat} {H : Hp} {a : Addr} {xs : List V} (h : TQ H a xs) (hl : xs.length ≤ 1000) (hx : ∀ x ∈ xs, DQ d H x) : DQ (d + 1) H (.ref a) := .inr ⟨a, xs, rfl, h, hl, hx⟩
theorem DQ.of {H : Hp} {v : V} {n : String} (h : TyF H v n) (hn : n ≠ "tuple") : ∀ {d : Nat}, DQ d H v
  | 0 => ⟨n, h⟩
  | _ + 1 => .inl ⟨n, h, hn⟩
theorem DQ.th {d : Nat} {H : Hp} {v : V} (h : DQ (d + 1) H v) : ∃ o, ThQ H v o := by
  rcases h with ⟨n, h, hn⟩ | ⟨a, xs, rfl, h, hl, hx⟩
  · exact ⟨_, .no h hn⟩
  · exact ⟨_, .yes h hl fun x hm => (hx x hm).ty⟩
theorem DQ.lq {d : Nat} {H : Hp} {v : V} (h : DQ (d + 1 + 1) H v) : ∃ o, LQ H v o := by
  rcases h with ⟨n, h, hn⟩ | ⟨a, xs, rfl, h, hl, hx⟩
  · exact ⟨_, .no h hn⟩
  · have key : ∀ (ys : List V), (∀ x ∈ ys, DQ (d + 1) H x) → ∃ ls : List (V × Option (List V)), ls.map Prod.fst = ys ∧ ∀ p ∈ ls, ThQ H p.1 p.2 := by
      intro ys
      induction ys with
      | nil => exact fun _ => ⟨[], rfl, fun _ z => nomatch z⟩
      | cons y ys ih =>
        intro hy
        obtain ⟨ls, e, hls⟩ := ih fun x hm => hy x (List.mem_cons_of_mem _ hm)
        obtain ⟨o, ho⟩ := (hy y List.mem_cons_self).th
        refine ⟨(y, o) :: ls, by rw [List.map_cons, e], fun p hp => ?_⟩
        rcases List.mem_cons.mp hp with rfl | hp
        · exact ho
        · exact hls p hp
    obtain ⟨ls, e, hls⟩ := key xs hx
    exact ⟨_, .yes (ls := ls) (by rw [e]; exact h) hls⟩
/-- a thing whose first is known to the object, and whose second is looked into -/
theorem m2_pair {d : Nat} {H : Hp} {a : Addr} {x y : V} {o : Option (List V)} (h : TQ H a [x, y]) (hx : ThF H x o) (hy : DQ (d + 1 + 1) H y) : ∃ o, M2Q H (.ref a) o := by
  obtain ⟨oy, hoy⟩ := hy.lq
  exact ⟨_, .yes h hx hoy⟩
structure M2s (H : Hp) (xs : List V) : Prop where
  all : ∀ x ∈ xs, ∃ o, M2Q H x o
theorem M2s.nil {H : Hp} : M2s H [] := ⟨fun _ z => nomatch z⟩
theorem M2s.cons {H : Hp} {x : V} {xs : List V} (h : ∃ o, M2Q H x o) (t : M2s H xs) : M2s H (x :: xs) := ⟨fun y hy => by
  rcases List.mem_cons.mp hy with rfl | hy
  · exact h
  · exact t.all y hy⟩
theorem M2s.app {H : Hp} {xs ys : List V} (a : M2s H xs) (b : M2s H ys) : M2s H (xs ++ ys) := ⟨fun x hx => (List.mem_append.mp hx).elim (a.all x) (b.all x)⟩
theorem M2s.ke {H H' : Hp} {xs : List V} (h : M2s H xs) (k : Ke H H') : M2s H' xs := ⟨fun x hx => (h.all x hx).imp fun _ z => z.ke k⟩
theorem M2s.new {H : Hp} {p : Addr} {o : HO} {xs : List V} (h : M2s H xs) (k : H p = none) : M2s (upd H p o) xs := h.ke (Ke.new k)
theorem M2s.sub {H : Hp} {xs ys : List V} (h : M2s H xs) (k : ∀ y ∈ ys, y ∈ xs) : M2s H ys := ⟨fun y hy => h.all y (k y hy)⟩
theorem m2_ty {H : Hp} {v : V} {nm : String} (h : TyF H v nm) (hn : nm ≠ "tuple") : ∃ o, M2Q H v o := ⟨_, .no h hn⟩
theorem ThF.dk {H H' : Hp} {p : Addr} {v : V} {o : Option (List V)} (h : ThF H v o) (k : Dk p H H') (d : Deck H p) : ThF H' v o := by
  cases h with
  | no h hn => exact .no (h.dk k d) hn
  | yes h hx => exact .yes (h.dk k d) fun x hm => (hx x hm).imp fun _ z => z.dk k d
theorem M2Q.put {H : Hp} {p : Addr} {xs ys : List V} {v : V} {o : Option (Option (List V) × Option (List (V × Option (List V))))} (h : M2Q H v o) (k : H p = some (.lst xs)) : M2Q (upd H p (.lst ys)) v o := by
  cases h with
  | no h hn => exact .no (h.put k) hn
  | len h hl => exact .len (h.put k) hl
  | yes h hx hy => exact .yes (h.put k) (hx.put k) (hy.mono (fun _ _ z => z.put k) fun _ _ z => z.put k)
theorem M2Q.dk {H H' : Hp} {p : Addr} {v : V} {o : Option (Option (List V) × Option (List (V × Option (List V))))} (h : M2Q H v o) (k : Dk p H H') (d : Deck H p) : M2Q H' v o := by
  cases h with
  | no h hn => exact .no (h.dk k d) hn
  | len h hl => exact .len (h.dk k d) hl
  | yes h hx hy => exact .yes (h.dk k d) (hx.dk k d) (hy.mono (fun _ _ z => z.dk k d) fun _ _ z => z.dk k d)
theorem M2s.put {H : Hp} {p : Addr} {ys zs : List V} {xs : List V} (h : M2s H xs) (k : H p = some (.lst zs)) : M2s (upd H p (.lst ys)) xs := ⟨fun x hx => (h.all x hx).imp fun _ z => z.put k⟩
theorem M2s.dk {H H' : Hp} {p : Addr} {xs : List V} (h : M2s H xs) (k : Dk p H H') (d : Deck H p) : M2s H' xs := ⟨fun x hx => (h.all x hx).imp fun _ z => z.dk k d⟩
/-- rows of such things -/
structure ThJ (H : Hp) (xs : List V) : Prop where
  all : ∀ x ∈ xs, DQ 5 H x
theorem ThJ.nil {H : Hp} : ThJ H [] := ⟨fun _ z => nomatch z⟩
theorem ThJ.cons {H : Hp} {x : V} {xs : List V} (h : DQ 5 H x) (t : ThJ H xs) : ThJ H (x :: xs) := ⟨fun y hy => by
  rcases List.mem_cons.mp hy with rfl | hy
  · exact h
  · exact t.all y hy⟩
theorem ThJ.app {H : Hp} {xs ys : List V} (a : ThJ H xs) (b : ThJ H ys) : ThJ H (xs ++ ys) := ⟨fun x hx => (List.mem_append.mp hx).elim (a.all x) (b.all x)⟩
theorem ThJ.ke {H H' : Hp} {xs : List V} (h : ThJ H xs) (k : Ke H H') : ThJ H' xs := ⟨fun x hx => (h.all x hx).ke k⟩
theorem ThJ.new {H : Hp} {p : Addr} {o : HO} {xs : List V} (h : ThJ H xs) (k : H p = none) : ThJ (upd H p o) xs := h.ke (Ke.new k)
theorem ThJ.put {H : Hp} {p : Addr} {ys zs : List V} {xs : List V} (h : ThJ H xs) (k : H p = some (.lst zs)) : ThJ (upd H p (.lst ys)) xs := ⟨fun x hx => (h.all x hx).put k⟩
theorem ThJ.dk {H H' : Hp} {p : Addr} {xs : List V} (h : ThJ H xs) (k : Dk p H H') (d : Deck H p) : ThJ H' xs := ⟨fun x hx => (h.all x hx).dk k d⟩
theorem ThJ.tup {H : Hp} {a : Addr} {xs : List V} (h : ThJ H xs) (ha : TQ H a xs) (hl : xs.length ≤ 1000 := by simp) : DQ 5 H (.ref a) := DQ.tup ha hl fun x hx => (h.all x hx).down
theorem ThJ.sub {H : Hp} {xs ys : List V} (h : ThJ H xs) (k : ∀ y ∈ ys, y ∈ xs) : ThJ H ys := ⟨fun y hy => h.all y (k y hy)⟩
theorem tj_non {H : Hp} : DQ 5 H .non := DQ.of .non (by decide)
theorem tj_bl {H : Hp} (b : Bool) : DQ 5 H (.bl b) := DQ.of (.bl b) (by decide)
theorem tj_int {H : Hp} (i : Int) : DQ 5 H (.int i) := DQ.of (.int i) (by decide)
theorem tj_str {H : Hp} (z : Str) : DQ 5 H (.str z) := DQ.of (.str z) (by decide)
theorem tj_lst {H : Hp} {a : Addr} {xs : List V} (h : H a = some (.lst xs)) : DQ 5 H (.ref a) := DQ.of (.lst h) (by decide)
theorem ThJ.cut {H : Hp} {xs : List V} {lo hi : Option Int} (h : ThJ H xs) : ThJ H (cutV xs lo hi) := h.sub fun _ => cutV_mem
theorem ThJ.rev {H : Hp} {xs : List V} (h : ThJ H xs) : ThJ H xs.reverse := h.sub fun _ => List.mem_reverse.mp
theorem ThJ.ints {H : Hp} (ls : List Int) : ThJ H (ls.map V.int) := ⟨fun x hx => by
  obtain ⟨i, _, rfl⟩ := List.mem_map.mp hx
  exact tj_int i⟩
theorem Lots.j {H : Hp} {rs : List V} {lots : List (List Int)} (h : Lots H rs lots) (hb : ∀ l ∈ lots, l.length ≤ 1000) : ThJ H rs := ⟨fun x hx => by
  obtain ⟨i, hi⟩ := List.getElem?_of_mem hx
  obtain ⟨l, q, h1, h2, h3⟩ := h.get hi
  rw [h2]
  exact (ThJ.ints l).tup (.inl h3) (by rw [List.length_map]; exact hb l (List.mem_of_getElem? h1))⟩
end FF
namespace FF
open PySem PySem.Spec PyProof.Rows L2
variable [LT]
def top (i : Nat) : Stmt := PySem.Challenge.pw_fewforests_k61_bent_even.main.body.getD i (.Pass ⟨0, 0, 0, 0⟩)
abbrev s_is_number : Stmt := top 1
abbrev s_is_rising : Stmt := top 2
abbrev s_shares_of : Stmt := top 3
abbrev s_is_lot : Stmt := top 5
abbrev s_is_ways : Stmt := top 7
abbrev s_right_even : Stmt := top 9
abbrev s_are_closed : Stmt := top 10
abbrev s_is_closed : Stmt := top 11
abbrev s_law_mixed : Stmt := top 13
abbrev s_law_deck : Stmt := top 14
abbrev s_law_next : Stmt := top 15
abbrev s_law_tie : Stmt := top 16
abbrev s_law_any_web : Stmt := top 17
abbrev s_law_round : Stmt := top 18
abbrev s_law_full : Stmt := top 19
abbrev s_law_tree : Stmt := top 20
abbrev s_law_web : Stmt := top 21
abbrev s_law_is_int : Stmt := top 22
abbrev s_law_is_true : Stmt := top 23
abbrev s_law_odd_things : Stmt := top 24
abbrev s_law_outs : Stmt := top 25
abbrev s_law_is_lot : Stmt := top 26
abbrev s_law_leads : Stmt := top 27
abbrev s_law_come_to : Stmt := top 28
abbrev s_law_root : Stmt := top 29
abbrev s_law_root_ways : Stmt := top 30
abbrev s_law_evened : Stmt := top 31
abbrev s_law_turned : Stmt := top 32
abbrev s_law_even_paper : Stmt := top 33
abbrev s_law_are_ways : Stmt := top 34
abbrev s_law_is_even : Stmt := top 35
abbrev s_law_bent_lots : Stmt := top 36
abbrev s_law_lots_of : Stmt := top 37
abbrev s_law_odd_points : Stmt := top 38
abbrev s_law_bent_ways : Stmt := top 39
abbrev s_law : Stmt := top 40

/-! ### built-ins and constants of the text -/
structure Blt (mg : Str → Option Value) : Prop where
  b_all : mg "all" = none
  b_bool : mg "bool" = none
  b_enumerate : mg "enumerate" = none
  b_int : mg "int" = none
  b_isinstance : mg "isinstance" = none
  b_len : mg "len" = none
  b_list : mg "list" = none
  b_max : mg "max" = none
  b_min : mg "min" = none
  b_range : mg "range" = none
  b_reversed : mg "reversed" = none
  b_set : mg "set" = none
  b_sorted : mg "sorted" = none
  b_tuple : mg "tuple" = none
  b_zip : mg "zip" = none
def Tabs (tb : List Addr) (H : Hp) : Prop := ∀ P ∈ tb, TabG H P
theorem Tabs.kx {tb : List Addr} {S : Addr → Prop} {H H1 : Hp} (h : Tabs tb H) (k : Kx S H H1) : Tabs tb H1 := fun P hP => k.tab P (h P hP)
theorem Tabs.dk {tb : List Addr} {p : Addr} {H H1 : Hp} (h : Tabs tb H) (k : Dk p H H1) : Tabs tb H1 := h.kx k.k
theorem Tabs.new {tb : List Addr} {p : Addr} {H : Hp} {o : HO} (h : Tabs tb H) (k : H p = none) : Tabs tb (upd H p o) := h.kx (S := fun _ => False) (Ke.new k)
abbrev nm_is_number : List Str := ["thing", "least", "most"]
theorem sc_is_number : FnScope nm_is_number ["thing", "least", "most"] (defScope s_is_number) := ⟨rfl, rfl, rfl, by decide +kernel, rfl, by decide +kernel, by decide +kernel⟩
/-! ### is_number -/
def sp_is_number (_ : PySem.W.Frag) (_ : List Addr) : Sp := fun vs H Q _ => ∃ (v : V) (lo hi : Int) (n : String), vs = [v, .int lo, .int hi] ∧ TyF H v n ∧ Q (.bl (isNum v lo hi)) H
abbrev nm_is_rising : List Str := ["thing", "most", "least", "number"]
theorem sc_is_rising : FnScope nm_is_rising ["thing", "most"] (defScope s_is_rising) := ⟨rfl, rfl, rfl, by decide +kernel, rfl, by decide +kernel, by decide +kernel⟩
/-! ### is_rising -/
def sp_is_rising (K : PySem.W.Frag) (_ : List Addr) : Sp := fun vs H Q _ => ∃ (t : V) (m : Int) (o : Option (List V)), vs = [t, .int m] ∧ ThG K H t o ∧ Q (.bl (risO m o)) H
abbrev nm_shares_of : List Str := ["points", "holders", "shares", "holder"]
theorem sc_shares_of : FnScope nm_shares_of ["points", "holders"] (defScope s_shares_of) := ⟨rfl, rfl, rfl, by decide +kernel, rfl, by decide +kernel, by decide +kernel⟩
/-! ### shares_of -/
def sp_shares_of (K : PySem.W.Frag) (_ : List Addr) : Sp := fun vs H Q _ => ∃ (n : Int) (a : Addr) (ws : List Int), vs = [.int n, .ref a] ∧ 0 ≤ n ∧ n ≤ 1000 ∧ (SqL K H a (ws.map V.int) ∨ SqT K H a (ws.map V.int)) ∧ (∀ w ∈ ws, 0 ≤ w ∧ w < n) ∧
  ∀ (H' : Hp) (p : Addr), Ke H H' → H p = none → H' p = some (.lst ((outsL n ws).map V.int)) → Q (.ref p) H'
abbrev nm_is_lot : List Str := ["web", "thing"]
theorem sc_is_lot : FnScope nm_is_lot ["web", "thing"] (defScope s_is_lot) := ⟨rfl, rfl, rfl, by decide +kernel, rfl, by decide +kernel, by decide +kernel⟩
/-! ### is_lot -/
def sp_is_lot (K : PySem.W.Frag) (_ : List Addr) : Sp := fun vs H Q _ => ∃ (v t : V) (n : Int) (ts : List (Int × Int)) (o : Option (List V)), vs = [v, t] ∧ Web H v n ts ∧ ThG K H t o ∧ Q (.bl (lotO n o)) H
abbrev nm_is_ways : List Str := ["web", "thing"]
theorem sc_is_ways : FnScope nm_is_ways ["web", "thing"] (defScope s_is_ways) := ⟨rfl, rfl, rfl, by decide +kernel, rfl, by decide +kernel, by decide +kernel⟩
theorem gnd_is_ways_0 : (["point", "a", "b"] : List Str).Nodup := by decide +kernel
/-! ### is_ways -/
def sp_is_ways (K : PySem.W.Frag) (tb : List Addr) : Sp := fun vs H Q _ => ∃ (v th : V) (n : Int) (ts : List (Int × Int)) (o : Option (List V)), vs = [v, th] ∧ Web H v n ts ∧ TOk n ts ∧ ts.length ≤ 1000000 ∧ ThG K H th o ∧ Tabs tb H ∧
  ∀ H', Ke H H' → Q (.bl (waysO ts o)) H'
abbrev nm_is_closed : List Str := ["web", "held", "shares", "q", "thing", "point", "share"]
theorem sc_is_closed : FnScope nm_is_closed ["web", "held", "shares", "q", "thing"] (defScope s_is_closed) := ⟨rfl, rfl, rfl, by decide +kernel, rfl, by decide +kernel, by decide +kernel⟩
theorem gnd_is_closed_0 : (["thing", "holder", "group", "point"] : List Str).Nodup := by decide +kernel
/-! ### is_closed -/
def sp_is_closed (K : PySem.W.Frag) (tb : List Addr) : Sp := fun vs H Q _ => ∃ (v : V) (n : Int) (ts : List (Int × Int)) (hl : Addr) (rs : List V) (held : List (Int × List Int)) (sa : Addr) (sh : List Int) (k : Int) (t : V) (o : Option (List V)), vs = [v, .ref hl, .ref sa, .int k, t] ∧ Web H v n ts ∧ 0 ≤ n ∧ H hl = some (.lst rs) ∧ HeldP H rs held ∧ H sa = some (.lst (sh.map V.int)) ∧ sh.length = n.toNat ∧ ThQ H t o ∧ rs.length ≤ 1000 ∧ (∀ e ∈ held, e.2.length ≤ 1000) ∧ Tabs tb H ∧
  ∀ H', Ke H H' → Q (.bl (closB n held sh k o)) H'
abbrev nm_are_closed : List Str := ["web", "held", "thing", "holder", "group", "shares"]
theorem sc_are_closed : FnScope nm_are_closed ["web", "held", "thing"] (defScope s_are_closed) := ⟨rfl, rfl, rfl, by decide +kernel, rfl, by decide +kernel, by decide +kernel⟩
theorem gnd_are_closed_0 : (["web", "held", "shares", "q", "lot"] : List Str).Nodup := by decide +kernel
/-! ### are_closed -/
def sp_are_closed (K : PySem.W.Frag) (tb : List Addr) : Sp := fun vs H Q _ => ∃ (v : V) (n : Int) (ts : List (Int × Int)) (hl : Addr) (rs : List V) (held : List (Int × List Int)) (t : V) (o : Option (List (V × Option (List V)))), vs = [v, .ref hl, t] ∧ Web H v n ts ∧ 1 ≤ n ∧ n ≤ 1000 ∧ H hl = some (.lst rs) ∧ HeldP H rs held ∧ (∀ e ∈ held, 0 ≤ e.1 ∧ e.1 < n) ∧ LQ H t o ∧ rs.length ≤ 1000 ∧ (∀ e ∈ held, e.2.length ≤ 1000) ∧ Tabs tb H ∧
  ∀ H', Ke H H' → Q (.bl (areB n held o)) H'
abbrev nm_right_even : List Str := ["web", "root", "thing", "ways", "lots", "point", "tie", "end", "held"]
theorem sc_right_even : FnScope nm_right_even ["web", "root", "thing"] (defScope s_right_even) := ⟨rfl, rfl, rfl, by decide +kernel, rfl, by decide +kernel, by decide +kernel⟩
def csc_right_even_6_11 : Scope := { kind := .function, names := [(".0", .local), ("point", .local), ("tie", .local), ("root", .free)], isGenerator := false, isCoroutine := false, more := [] }
/-! ### right_even -/
def sp_right_even (K : PySem.W.Frag) (tb : List Addr) : Sp := fun vs H Q _ => ∃ (v : V) (n : Int) (ts : List (Int × Int)) (root t : V) (o : Option (Option (List V) × Option (List (V × Option (List V))))), vs = [v, root, t] ∧ Web H v n ts ∧ RootV root ∧ TOk n ts ∧ 1 ≤ n ∧ n ≤ 1000 ∧ ts.length ≤ 1000 ∧ M2Q H t o ∧ Tabs tb H ∧
  ∀ H', Ke H H' → Q (.bl (evenB ts n root o)) H'
theorem evenB_w {ts : List (Int × Int)} {n : Int} {root : V} {ox : Option (List V)} {oy : Option (List (V × Option (List V)))} (h : waysO ts ox = false) : evenB ts n root (some (ox, oy)) = false := by
  show (waysO ts ox && _) = false
  rw [h]
  rfl
theorem evenB_in {ts : List (Int × Int)} {n : Int} {root : V} {ws : List Int} {oy : Option (List (V × Option (List V)))} (h : waysO ts (some (ws.map V.int)) = true) : evenB ts n root (some (some (ws.map V.int), oy)) = (!inV root (ws.map V.int) && areB n (heldF root ws ts) oy) := by
  show (waysO ts (some (ws.map V.int)) && (!inV root (ws.map V.int) && areB n (heldF root (intsOf (ws.map V.int)) ts) oy)) = _
  rw [h, intsOf_map]
  rfl
theorem RootV.flat {v : V} (h : RootV v) : flatV v = true := by
  rcases h with rfl | ⟨i, rfl⟩ <;> rfl
abbrev nm__law_mixed : List Str := ["_law_cell", "_law_k", "_law_number"]
theorem sc__law_mixed : FnScope nm__law_mixed ["_law_cell", "_law_k"] (defScope s_law_mixed) := ⟨rfl, rfl, rfl, by decide +kernel, rfl, by decide +kernel, by decide +kernel⟩
/-! ### _law_mixed -/
def sp__law_mixed (_ : PySem.W.Frag) (_ : List Addr) : Sp := fun vs H Q _ => ∃ c k : Int, vs = [.int c, .int k] ∧ 0 ≤ k ∧ k < 1000000 ∧ ∀ r : Int, 0 ≤ r → Q (.int r) H
abbrev nm__law_deck : List Str := ["_law_script", "_law_many", "_law_own", "_law_cell", "_law_rest", "_law_deck_here", "_law_k", "_law_at"]
theorem sc__law_deck : FnScope nm__law_deck ["_law_script", "_law_many"] (defScope s_law_deck) := ⟨rfl, rfl, rfl, by decide +kernel, rfl, by decide +kernel, by decide +kernel⟩
/-! ### _law_deck -/
def sp__law_deck (K : PySem.W.Frag) (_ : List Addr) : Sp := fun vs H Q _ => ∃ (a : Addr) (ns : List Int) (n : Int), vs = [.ref a, .int n] ∧ SqL K H a (ns.map V.int) ∧ ns.length ≤ 63 ∧ 0 ≤ n ∧ n ≤ 5000 ∧
  ∀ p H', H p = none → Ke H H' → Deck H' p → Q (.ref p) H'
abbrev nm__law_next : List Str := ["_law_deck_here"]
theorem sc__law_next : FnScope nm__law_next ["_law_deck_here"] (defScope s_law_next) := ⟨rfl, rfl, rfl, by decide +kernel, rfl, by decide +kernel, by decide +kernel⟩
/-! ### _law_next -/
def sp__law_next (_ : PySem.W.Frag) (_ : List Addr) : Sp := fun vs H Q _ => ∃ p : Addr, vs = [.ref p] ∧ Deck H p ∧ ∀ (r : Int) (H' : Hp), 0 ≤ r → r < 1000 → Dk p H H' → Q (.int r) H'
abbrev nm__law_tie : List Str := ["_law_deck_here", "_law_points", "_law_a", "_law_b"]
theorem sc__law_tie : FnScope nm__law_tie ["_law_deck_here", "_law_points"] (defScope s_law_tie) := ⟨rfl, rfl, rfl, by decide +kernel, rfl, by decide +kernel, by decide +kernel⟩
/-! ### _law_tie -/
def sp__law_tie (_ : PySem.W.Frag) (_ : List Addr) : Sp := fun vs H Q _ => ∃ (p : Addr) (n : Int), vs = [.ref p, .int n] ∧ Deck H p ∧ 2 ≤ n ∧
  ∀ (a b : Int) (t : Addr) (H1 : Hp), 0 ≤ a → a < b → b < n → Dk p H H1 → H1 t = none → Q (.ref t) (upd H1 t (.tup [.int a, .int b]))
abbrev nm__law_any_web : List Str := ["_law_deck_here", "_law_points", "_law_most", "_law_ties", "_law_k"]
theorem sc__law_any_web : FnScope nm__law_any_web ["_law_deck_here", "_law_points", "_law_most"] (defScope s_law_any_web) := ⟨rfl, rfl, rfl, by decide +kernel, rfl, by decide +kernel, by decide +kernel⟩
/-! ### _law_any_web -/
def sp__law_any_web (_ : PySem.W.Frag) (_ : List Addr) : Sp := fun vs H Q _ => ∃ (p : Addr) (n m : Int), vs = [.ref p, .int n, .int m] ∧ Deck H p ∧ 1 ≤ n ∧ n ≤ 1000 ∧ 0 ≤ m ∧ m ≤ 1000 ∧
  ∀ (H' : Hp) (v : V) (ts : List (Int × Int)), Dk p H H' → Web H' v n ts → (ts.length : Int) ≤ m → TOk n ts → (n = 1 → ts = []) → Q v H'
abbrev nm__law_round : List Str := ["_law_points", "_law_k"]
theorem sc__law_round : FnScope nm__law_round ["_law_points"] (defScope s_law_round) := ⟨rfl, rfl, rfl, by decide +kernel, rfl, by decide +kernel, by decide +kernel⟩
/-! ### _law_round -/
def sp__law_round (_ : PySem.W.Frag) (_ : List Addr) : Sp := fun vs H Q _ => ∃ n : Int, vs = [.int n] ∧ 2 ≤ n ∧ n ≤ 1000 ∧
  ∀ (H' : Hp) (l : Addr) (ts : List (Int × Int)), Ke H H' → H l = none → TL H' l ts → (ts.length : Int) ≤ n → TOk n ts → Q (.ref l) H'
abbrev nm__law_full : List Str := ["_law_points", "_law_found", "_law_b", "_law_a"]
theorem sc__law_full : FnScope nm__law_full ["_law_points"] (defScope s_law_full) := ⟨rfl, rfl, rfl, by decide +kernel, rfl, by decide +kernel, by decide +kernel⟩
/-! ### _law_full -/
def sp__law_full (_ : PySem.W.Frag) (_ : List Addr) : Sp := fun vs H Q _ => ∃ n : Int, vs = [.int n] ∧ 0 ≤ n ∧ n ≤ 100 ∧
  ∀ (H' : Hp) (l : Addr) (ts : List (Int × Int)), Ke H H' → H l = none → TL H' l ts → (ts.length : Int) ≤ 10000 → TOk n ts → Q (.ref l) H'
abbrev nm__law_tree : List Str := ["_law_deck_here", "_law_points", "_law_k"]
theorem sc__law_tree : FnScope nm__law_tree ["_law_deck_here", "_law_points"] (defScope s_law_tree) := ⟨rfl, rfl, rfl, by decide +kernel, rfl, by decide +kernel, by decide +kernel⟩
/-! ### _law_tree -/
def sp__law_tree (_ : PySem.W.Frag) (_ : List Addr) : Sp := fun vs H Q _ => ∃ (p : Addr) (n : Int), vs = [.ref p, .int n] ∧ Deck H p ∧ 1 ≤ n ∧ n ≤ 1000 ∧
  ∀ (H' : Hp) (l : Addr) (ts : List (Int × Int)), Dk p H H' → H l = none → TL H' l ts → (ts.length : Int) ≤ n → TOk n ts → Q (.ref l) H'
abbrev nm__law_web : List Str := ["_law_deck_here", "_law_points", "_law_most", "_law_sort", "_law_size", "_law_more", "_law_ties", "_law_turn"]
theorem sc__law_web : FnScope nm__law_web ["_law_deck_here", "_law_points", "_law_most"] (defScope s_law_web) := ⟨rfl, rfl, rfl, by decide +kernel, rfl, by decide +kernel, by decide +kernel⟩
/-! ### _law_web -/
def sp__law_web (_ : PySem.W.Frag) (_ : List Addr) : Sp := fun vs H Q _ => ∃ (p : Addr) (M m : Int), vs = [.ref p, .int M, .int m] ∧ Deck H p ∧ 1 ≤ M ∧ M ≤ 100 ∧ 0 ≤ m ∧ m ≤ 1000 ∧
  ∀ (H' : Hp) (v : V) (n : Int) (ts : List (Int × Int)), Dk p H H' → Web H' v n ts → 1 ≤ n → n ≤ M → (ts.length : Int) ≤ m → TOk n ts → Q v H'
abbrev nm__law_is_int : List Str := ["_law_thing", "_law_least", "_law_most"]
theorem sc__law_is_int : FnScope nm__law_is_int ["_law_thing", "_law_least", "_law_most"] (defScope s_law_is_int) := ⟨rfl, rfl, rfl, by decide +kernel, rfl, by decide +kernel, by decide +kernel⟩
/-! ### _law_is_int -/
def sp__law_is_int (_ : PySem.W.Frag) (_ : List Addr) : Sp := fun vs H Q _ => ∃ (v : V) (lo hi : Int) (n : String), vs = [v, .int lo, .int hi] ∧ TyF H v n ∧ Q (.bl (isNum v lo hi)) H
abbrev nm__law_is_true : List Str := ["_law_found", "_law_due"]
theorem sc__law_is_true : FnScope nm__law_is_true ["_law_found", "_law_due"] (defScope s_law_is_true) := ⟨rfl, rfl, rfl, by decide +kernel, rfl, by decide +kernel, by decide +kernel⟩
/-! ### _law_is_true -/
def sp__law_is_true (_ : PySem.W.Frag) (_ : List Addr) : Sp := fun vs H Q _ => ∃ a b : Bool, vs = [.bl a, .bl b] ∧ Q (.bl (decide (a = b))) H
abbrev nm__law_odd_things : List Str := ["_law_found"]
theorem sc__law_odd_things : FnScope nm__law_odd_things [] (defScope s_law_odd_things) := ⟨rfl, rfl, rfl, by decide +kernel, rfl, by decide +kernel, by decide +kernel⟩
/-! ### _law_odd_things -/
def sp__law_odd_things (_ : PySem.W.Frag) (_ : List Addr) : Sp := fun vs H Q _ => vs = [] ∧ ∀ H' l xs, Ke H H' → H l = none → H' l = some (.lst xs) → M2s H' xs → xs.length ≤ 100 → Q (.ref l) H'
abbrev nm__law_outs : List Str := ["_law_web_here", "_law_ways", "_law_k"]
theorem sc__law_outs : FnScope nm__law_outs ["_law_web_here", "_law_ways"] (defScope s_law_outs) := ⟨rfl, rfl, rfl, by decide +kernel, rfl, by decide +kernel, by decide +kernel⟩
/-! ### _law_outs -/
def sp__law_outs (_ : PySem.W.Frag) (_ : List Addr) : Sp := fun vs H Q _ => ∃ (v : V) (n : Int) (ts : List (Int × Int)) (a : Addr) (ws : List Int), vs = [v, .ref a] ∧ Web H v n ts ∧ 0 ≤ n ∧ n ≤ 1000 ∧ TF H a (ws.map V.int) ∧
  ∀ (H' : Hp) (p : Addr), Ke H H' → H' p = some (.tup ((outsL n ws).map V.int)) → Q (.ref p) H'
abbrev nm__law_is_lot : List Str := ["_law_web_here", "_law_thing", "_law_one", "_law_at"]
theorem sc__law_is_lot : FnScope nm__law_is_lot ["_law_web_here", "_law_thing"] (defScope s_law_is_lot) := ⟨rfl, rfl, rfl, by decide +kernel, rfl, by decide +kernel, by decide +kernel⟩
/-! ### _law_is_lot -/
theorem lotO_all {n : Int} {ls : List Int} (hne : ls ≠ []) (hb : ∀ x ∈ ls, 0 ≤ x ∧ x < n) : lotO n (some (ls.map V.int)) = (List.range (ls.length - 1)).all fun (i : Nat) => decide (hat ls (i : Int) < hat ls ((i : Int) + 1)) := by
  have hg : ∀ i : Nat, (h : i < ls.length) → hat ls (i : Int) = ls[i] := fun i h => hat_get (List.getElem?_eq_getElem h)
  cases c : lotO n (some (ls.map V.int)) with
  | true =>
    obtain ⟨ls', e, _, hup, _⟩ := lotO_inv c
    have e : ls.map V.int = ls'.map V.int := Option.some.inj e
    have e : ls = ls' := by rw [← intsOf_map ls, e, intsOf_map]
    subst e
    refine (List.all_eq_true.mpr fun i hi => decide_eq_true ?_).symm
    have hi := List.mem_range.mp hi
    rw [hg i (by omega), show (i : Int) + 1 = ((i + 1 : Nat) : Int) by omega, hg (i + 1) (by omega)]
    exact List.pairwise_iff_getElem.mp hup i (i + 1) (by omega) (by omega) (by omega)
  | false =>
    cases d : (List.range (ls.length - 1)).all fun (i : Nat) => decide (hat ls (i : Int) < hat ls ((i : Int) + 1)) with
    | false => rfl
    | true =>
      exfalso
      have st : ∀ i : Nat, i + 1 < ls.length → hat ls (i : Int) < hat ls (((i + 1 : Nat)) : Int) := fun i hi => by
        have := of_decide_eq_true (List.all_eq_true.mp d i (List.mem_range.mpr (by omega)))
        rw [show (((i + 1 : Nat)) : Int) = (i : Int) + 1 by omega]
        exact this
      have far : ∀ (k i : Nat), i + (k + 1) < ls.length → hat ls (i : Int) < hat ls (((i + (k + 1) : Nat)) : Int) := fun k => by
        induction k with
        | zero => exact fun i hi => st i hi
        | succ k ih =>
          intro i hi
          have a := ih i (by omega)
          have b := st (i + (k + 1)) (by omega)
          exact Int.lt_trans a b
      have hup : ls.Pairwise (· < ·) := List.pairwise_iff_getElem.mpr fun i j hi hj hij => by
        have := far (j - i - 1) i (by omega)
        rw [show i + (j - i - 1 + 1) = j by omega, hg i hi, hg j hj] at this
        exact this
      have hr := rising_of (n := n) (lo := 0) hup hb
      have : lotO n (some (ls.map V.int)) = true := by
        rw [lotO_ris]
        show (rising (n - 1 + 1) 0 (ls.map V.int) && !(ls.map V.int).isEmpty) = true
        rw [show n - 1 + 1 = n by omega, hr]
        cases ls with
        | nil => exact absurd rfl hne
        | cons _ _ => rfl
      rw [c] at this
      cases this
def sp__law_is_lot (_ : PySem.W.Frag) (_ : List Addr) : Sp := fun vs H Q _ => ∃ (v : V) (n : Int) (ts : List (Int × Int)) (t : V) (o : Option (List V)), vs = [v, t] ∧ Web H v n ts ∧ n ≤ 1000 ∧ ThQ H t o ∧
  ∀ H', Ke H H' → Q (.bl (lotO n o)) H'
abbrev nm__law_leads : List Str := ["_law_web_here", "_law_ways", "_law_tie_here", "_law_out"]
theorem sc__law_leads : FnScope nm__law_leads ["_law_web_here", "_law_ways"] (defScope s_law_leads) := ⟨rfl, rfl, rfl, by decide +kernel, rfl, by decide +kernel, by decide +kernel⟩
/-! ### _law_leads -/
def sp__law_leads (K : PySem.W.Frag) (_ : List Addr) : Sp := fun vs H Q _ => ∃ (v : V) (n : Int) (ts : List (Int × Int)) (a : Addr) (ws : List Int), vs = [v, .ref a] ∧ Web H v n ts ∧ TQ H a (ws.map V.int) ∧ ws.length = ts.length ∧ ts.length ≤ 1000 ∧
  ∀ (H' : Hp) (l : Addr) (rs : List V), Ke H H' → H l = none → H' l = some (.lst rs) → Ties H' rs (leadsF ts ws) → Q (.ref l) H'
abbrev nm__law_come_to : List Str := ["_law_leads_here", "_law_starts", "_law_found", "_law_at", "_law_out", "_law_other"]
theorem sc__law_come_to : FnScope nm__law_come_to ["_law_leads_here", "_law_starts"] (defScope s_law_come_to) := ⟨rfl, rfl, rfl, by decide +kernel, rfl, by decide +kernel, by decide +kernel⟩
/-! ### _law_come_to -/
def sp__law_come_to (_ : PySem.W.Frag) (_ : List Addr) : Sp := fun vs H Q _ => ∃ (la sa : Addr) (n : Int) (rs : List V) (ls : List (Int × Int)) (ss : List Int), vs = [.ref la, .ref sa] ∧ H la = some (.lst rs) ∧ Ties H rs ls ∧ H sa = some (.lst (ss.map V.int)) ∧ ss.Nodup ∧ (∀ x ∈ ss, 0 ≤ x ∧ x < n) ∧ (∀ a b, (a, b) ∈ ls → 0 ≤ b ∧ b < n) ∧ 1 ≤ n ∧ n ≤ 900 ∧ ls.length ≤ 1000 ∧
  ∀ (H' : Hp) (l : Addr) (R : List Int), Ke H H' → H l = none → H' l = some (.lst (R.map V.int)) → ComeR n ls ss R → Q (.ref l) H'
abbrev nm__law_root : List Str := ["_law_deck_here", "_law_web_here", "_law_cell"]
theorem sc__law_root : FnScope nm__law_root ["_law_deck_here", "_law_web_here"] (defScope s_law_root) := ⟨rfl, rfl, rfl, by decide +kernel, rfl, by decide +kernel, by decide +kernel⟩
/-! ### _law_root -/
def sp__law_root (_ : PySem.W.Frag) (_ : List Addr) : Sp := fun vs H Q _ => ∃ (p : Addr) (v : V) (n : Int) (ts : List (Int × Int)), vs = [.ref p, v] ∧ Deck H p ∧ Web H v n ts ∧ 1 ≤ n ∧
  ∀ (H' : Hp) (root : V), Dk p H H' → RootV root → Q root H'
abbrev nm__law_root_ways : List Str := ["_law_deck_here", "_law_web_here", "_law_root_here", "_law_found", "_law_tie_here", "_law_out"]
theorem sc__law_root_ways : FnScope nm__law_root_ways ["_law_deck_here", "_law_web_here", "_law_root_here"] (defScope s_law_root_ways) := ⟨rfl, rfl, rfl, by decide +kernel, rfl, by decide +kernel, by decide +kernel⟩
/-! ### _law_root_ways -/
def sp__law_root_ways (_ : PySem.W.Frag) (_ : List Addr) : Sp := fun vs H Q _ => ∃ (p : Addr) (v : V) (n : Int) (ts : List (Int × Int)) (root : V), vs = [.ref p, v, root] ∧ Deck H p ∧ Web H v n ts ∧ RootV root ∧ TOk n ts ∧ ts.length ≤ 1000 ∧
  ∀ (H' : Hp) (a : Addr) (ws : List Int), Dk p H H' → TF H' a (ws.map V.int) → WOk ts ws → (∀ w ∈ ws, V.int w ≠ root) → Q (.ref a) H'
abbrev nm__law_turned : List Str := ["_law_web_here", "_law_ways", "_law_start", "_law_end", "_law_came", "_law_waiting", "_law_point", "_law_at", "_law_out", "_law_other", "_law_found"]
theorem sc__law_turned : FnScope nm__law_turned ["_law_web_here", "_law_ways", "_law_start", "_law_end"] (defScope s_law_turned) := ⟨rfl, rfl, rfl, by decide +kernel, rfl, by decide +kernel, by decide +kernel⟩
/-! ### _law_turned -/
def sp__law_turned (_ : PySem.W.Frag) (_ : List Addr) : Sp := fun vs H Q _ => ∃ (v : V) (n : Int) (ts : List (Int × Int)) (a : Addr) (ws : List Int) (s x : Int), vs = [v, .ref a, .int s, .int x] ∧ Web H v n ts ∧ TF H a (ws.map V.int) ∧ WOk ts ws ∧ TOk n ts ∧ 1 ≤ n ∧ n ≤ 1000 ∧ ts.length ≤ 1000 ∧ (0 ≤ s ∧ s < n) ∧ Cm (leadsF ts ws) [s] x ∧
  ∀ (H' : Hp) (b : Addr) (us : List Int), Ke H H' → TF H' b (us.map V.int) → WOk ts us → (∀ p, us.count p + (if p = s then 1 else 0) = ws.count p + (if p = x then 1 else 0)) → Q (.ref b) H'
abbrev nm__law_evened : List Str := ["_law_web_here", "_law_root_here", "_law_ways", "_law_outs_here", "_law_start", "_law_at", "_law_other", "_law_leads_here", "_law_end"]
theorem sc__law_evened : FnScope nm__law_evened ["_law_web_here", "_law_root_here", "_law_ways"] (defScope s_law_evened) := ⟨rfl, rfl, rfl, by decide +kernel, rfl, by decide +kernel, by decide +kernel⟩
/-! ### _law_evened -/
/-- nothing can be made more even -/
def EvenR (n : Int) (ts : List (Int × Int)) (root : V) (ws : List Int) : Prop := ∀ s x, 0 ≤ s → s < n → Cm (leadsF ts ws) [s] x → V.int x = root ∨ ws.count s < ws.count x + 2
def sp__law_evened (_ : PySem.W.Frag) (_ : List Addr) : Sp := fun vs H Q _ => ∃ (v : V) (n : Int) (ts : List (Int × Int)) (root : V) (a : Addr) (ws : List Int), vs = [v, root, .ref a] ∧ Web H v n ts ∧ RootV root ∧ TF H a (ws.map V.int) ∧ WOk ts ws ∧ (∀ w ∈ ws, V.int w ≠ root) ∧ TOk n ts ∧ 1 ≤ n ∧ n ≤ 60 ∧ ts.length ≤ 500 ∧
  ∀ (H' : Hp) (y : V), Ke H H' → ((y = .non ∧ EvenR n ts root ws) ∨ ∃ b us, y = .ref b ∧ TF H' b (us.map V.int) ∧ WOk ts us ∧ (∀ w ∈ us, V.int w ≠ root) ∧ sqO n us < sqO n ws) → Q y H'
abbrev nm__law_lots_of : List Str := ["_law_web_here", "_law_root_here", "_law_ways", "_law_outs_here", "_law_leads_here", "_law_lots", "_law_q", "_law_point", "_law_come"]
theorem sc__law_lots_of : FnScope nm__law_lots_of ["_law_web_here", "_law_root_here", "_law_ways"] (defScope s_law_lots_of) := ⟨rfl, rfl, rfl, by decide +kernel, rfl, by decide +kernel, by decide +kernel⟩
/-! ### _law_lots_of -/
/-- the lots of ways, one for each number from 1 to the greatest outs less one -/
structure LotsE (n : Int) (ts : List (Int × Int)) (root : V) (ws : List Int) (lots : List (List Int)) : Prop where
  len : (lots.length : Int) = topF (outsL n ws)
  each : ∀ (i : Nat) (ls : List Int), lots[i]? = some ls → ls.Pairwise (· < ·) ∧ ∃ R ss, ComeR n (leadsF ts ws) ss R ∧ (∀ p, p ∈ ss ↔ (0 ≤ p ∧ p < n) ∧ (1 + (i : Int)) < (ws.count p : Int)) ∧ ∀ p, p ∈ ls ↔ p ∈ R ∧ V.int p ≠ root
def sp__law_lots_of (_ : PySem.W.Frag) (_ : List Addr) : Sp := fun vs H Q _ => ∃ (v : V) (n : Int) (ts : List (Int × Int)) (root : V) (a : Addr) (ws : List Int), vs = [v, root, .ref a] ∧ Web H v n ts ∧ RootV root ∧ TF H a (ws.map V.int) ∧ WOk ts ws ∧ TOk n ts ∧ 1 ≤ n ∧ n ≤ 60 ∧ ts.length ≤ 500 ∧
  ∀ (H' : Hp) (l : Addr) (rs : List V) (lots : List (List Int)), Ke H H' → TF H' l rs → Lots H' rs lots → LotsE n ts root ws lots → Q (.ref l) H'
abbrev nm__law_even_paper : List Str := ["_law_web_here", "_law_root_here", "_law_ways", "_law_better"]
theorem sc__law_even_paper : FnScope nm__law_even_paper ["_law_web_here", "_law_root_here", "_law_ways"] (defScope s_law_even_paper) := ⟨rfl, rfl, rfl, by decide +kernel, rfl, by decide +kernel, by decide +kernel⟩
/-! ### _law_even_paper -/
def sp__law_even_paper (_ : PySem.W.Frag) (_ : List Addr) : Sp := fun vs H Q _ => ∃ (v : V) (n : Int) (ts : List (Int × Int)) (root : V) (a : Addr) (ws : List Int), vs = [v, root, .ref a] ∧ Web H v n ts ∧ RootV root ∧ TF H a (ws.map V.int) ∧ WOk ts ws ∧ (∀ w ∈ ws, V.int w ≠ root) ∧ TOk n ts ∧ 1 ≤ n ∧ n ≤ 60 ∧ ts.length ≤ 500 ∧
  ∀ (H' : Hp) (x b l : Addr) (us : List Int) (rs : List V) (lots : List (List Int)), Ke H H' → H' x = some (.tup [.ref b, .ref l]) → TF H' b (us.map V.int) → WOk ts us → (∀ w ∈ us, V.int w ≠ root) → EvenR n ts root us → TF H' l rs → Lots H' rs lots → LotsE n ts root us lots → Q (.ref x) H'
abbrev nm__law_are_ways : List Str := ["_law_web_here", "_law_thing", "_law_out", "_law_tie_here"]
theorem sc__law_are_ways : FnScope nm__law_are_ways ["_law_web_here", "_law_thing"] (defScope s_law_are_ways) := ⟨rfl, rfl, rfl, by decide +kernel, rfl, by decide +kernel, by decide +kernel⟩
/-! ### _law_are_ways -/
theorem waysO_all : ∀ {ts : List (Int × Int)} {xs : List V}, xs.length = ts.length → waysO ts (some xs) = ((List.range ts.length).all fun i => isEnd (ts.getD i (0, 0)) (xs.getD i .non))
  | [], [], _ => rfl
  | t :: ts, x :: xs, h => by
    have ih := waysO_all (ts := ts) (xs := xs) (by simpa using h)
    show (isEnd t x && endsB ts xs) = _
    have ih : endsB ts xs = _ := ih
    rw [ih, List.length_cons, List.range_succ_eq_map, List.all_cons, List.all_map]
    rfl
theorem isEnd_num {n : Int} {t : Int × Int} {x : V} (h : 0 ≤ t.1 ∧ t.1 < t.2 ∧ t.2 < n) : isEnd t x = (isNum x 0 (n - 1) && inV x [.int t.1, .int t.2]) := by
  cases x with
  | int y =>
    have e := inV_int y [t.1, t.2]
    have e : inV (V.int y) [.int t.1, .int t.2] = decide (y ∈ [t.1, t.2]) := e
    rw [e]
    show (decide (y = t.1) || decide (y = t.2)) = ((decide (0 ≤ y) && decide (y ≤ n - 1)) && decide (y ∈ [t.1, t.2]))
    by_cases e1 : y = t.1
    · rw [decide_eq_true e1, decide_eq_true (show 0 ≤ y by omega), decide_eq_true (show y ≤ n - 1 by omega), decide_eq_true (show y ∈ [t.1, t.2] by rw [e1]; exact List.mem_cons_self)]
      rfl
    · by_cases e2 : y = t.2
      · rw [decide_eq_true e2, decide_eq_true (show 0 ≤ y by omega), decide_eq_true (show y ≤ n - 1 by omega), decide_eq_true (show y ∈ [t.1, t.2] by rw [e2]; exact List.mem_cons_of_mem _ List.mem_cons_self), Bool.or_true]
        rfl
      · rw [decide_eq_false e1, decide_eq_false e2, decide_eq_false (show ¬ y ∈ [t.1, t.2] by simp [e1, e2]), Bool.and_false]
        rfl
  | _ => rfl
def sp__law_are_ways (_ : PySem.W.Frag) (_ : List Addr) : Sp := fun vs H Q _ => ∃ (v : V) (n : Int) (ts : List (Int × Int)) (t : V) (o : Option (List V)), vs = [v, t] ∧ Web H v n ts ∧ TOk n ts ∧ n ≤ 1000 ∧ ts.length ≤ 1000 ∧ ThF H t o ∧
  ∀ H', Ke H H' → Q (.bl (waysO ts o)) H'
abbrev nm__law_is_even : List Str := ["_law_web_here", "_law_root_here", "_law_thing", "_law_ways", "_law_lots", "_law_outs_here", "_law_at", "_law_lot", "_law_point", "_law_out", "_law_high", "_law_other"]
theorem sc__law_is_even : FnScope nm__law_is_even ["_law_web_here", "_law_root_here", "_law_thing"] (defScope s_law_is_even) := ⟨rfl, rfl, rfl, by decide +kernel, rfl, by decide +kernel, by decide +kernel⟩
/-! ### _law_is_even -/
theorem held_fst {root : V} {ws : List Int} {ts : List (Int × Int)} (h : ws.length = ts.length) : (heldF root ws ts).map Prod.fst = ws := by
  unfold heldF
  rw [List.map_fst_zip]
  rw [List.length_map]
  omega
/-- what closes a lot, by the ways' leads -/
theorem held_all {root : V} {ws : List Int} {ts : List (Int × Int)} {n : Int} (hw : WOk ts ws) (ok : TOk n ts) (ls : List Int) : (heldF root ws ts).all (heB ls) = true ↔ ∀ a b, (a, b) ∈ leadsF ts ws → ¬ (a ∈ ls ∧ b ∉ ls ∧ V.int b ≠ root) := by
  rw [List.all_eq_true]
  constructor
  · rintro h a b hab ⟨h1, h2, h3⟩
    obtain ⟨i, t, e1, e2, rfl⟩ := leads_mem.mp hab
    have hm : (a, grp root t) ∈ heldF root ws ts := List.mem_of_getElem? (i := i) (by
      unfold heldF
      rw [List.getElem?_zip_eq_some]
      exact ⟨e2, by rw [List.getElem?_map, e1]; rfl⟩)
    have := h _ hm
    unfold heB at this
    rw [decide_eq_true h1, Bool.not_true, Bool.false_or, List.all_eq_true] at this
    have hb : oE t a ∈ grp root t := by
      unfold grp
      rw [List.mem_filter]
      refine ⟨?_, by rw [decide_eq_false h3]; rfl⟩
      rcases (hw.other ok e1 e2).1 with z | z <;> rw [z] <;> simp
    exact h2 (of_decide_eq_true (this _ hb))
  · intro h e he
    obtain ⟨i, hi⟩ := List.getElem?_of_mem he
    obtain ⟨w, g⟩ := e
    unfold heldF at hi
    rw [List.getElem?_zip_eq_some] at hi
    obtain ⟨e2, e1⟩ := hi
    rw [List.getElem?_map] at e1
    cases ht : ts[i]? with
    | none => rw [ht] at e1; cases e1
    | some t =>
      rw [ht] at e1
      have e1 : grp root t = g := Option.some.inj e1
      subst e1
      unfold heB
      by_cases c : w ∈ ls
      · rw [decide_eq_true c, Bool.not_true, Bool.false_or, List.all_eq_true]
        intro p hp
        unfold grp at hp
        rw [List.mem_filter, Bool.not_eq_true', decide_eq_false_iff_not] at hp
        refine decide_eq_true (Classical.byContradiction fun cp => ?_)
        by_cases cw : p = w
        · exact cp (cw ▸ c)
        · have epw : p = oE t w := by
            unfold oE
            have := hw.2 i t w ht e2
            simp only [List.mem_cons, List.not_mem_nil, or_false] at hp
            omega
          exact h w (oE t w) (leads_mem.mpr ⟨i, t, ht, e2, rfl⟩) ⟨c, epw ▸ cp, epw ▸ hp.2⟩
      · rw [decide_eq_false c]
        rfl
def sp__law_is_even (_ : PySem.W.Frag) (_ : List Addr) : Sp := fun vs H Q _ => ∃ (v : V) (n : Int) (ts : List (Int × Int)) (root t : V) (o : Option (Option (List V) × Option (List (V × Option (List V))))), vs = [v, root, t] ∧ Web H v n ts ∧ RootV root ∧ TOk n ts ∧ 1 ≤ n ∧ n ≤ 60 ∧ ts.length ≤ 500 ∧ M2Q H t o ∧
  ∀ H', Ke H H' → Q (.bl (evenB ts n root o)) H'
abbrev nm__law_bent_lots : List Str := ["_law_deck_here", "_law_web_here", "_law_lots", "_law_kind", "_law_at", "_law_point", "_law_lot", "_law_some"]
theorem sc__law_bent_lots : FnScope nm__law_bent_lots ["_law_deck_here", "_law_web_here", "_law_lots"] (defScope s_law_bent_lots) := ⟨rfl, rfl, rfl, by decide +kernel, rfl, by decide +kernel, by decide +kernel⟩
/-! ### _law_bent_lots -/
def sp__law_bent_lots (_ : PySem.W.Frag) (_ : List Addr) : Sp := fun vs H Q _ => ∃ (p : Addr) (v : V) (n : Int) (ts : List (Int × Int)) (l : Addr) (rs : List V) (lots : List (List Int)), vs = [.ref p, v, .ref l] ∧ Deck H p ∧ Web H v n ts ∧ 1 ≤ n ∧ n ≤ 60 ∧ TF H l rs ∧ Lots H rs lots ∧ (∀ x ∈ lots, x.length ≤ 60) ∧ lots.length ≤ 300 ∧
  ∀ (H' : Hp) (y : V), Dk p H H' → DQ 5 H' y → Q y H'
abbrev nm__law_odd_points : List Str := ["_law_deck_here", "_law_lots", "_law_at", "_law_lot", "_law_place", "_law_found", "_law_odd"]
theorem sc__law_odd_points : FnScope nm__law_odd_points ["_law_deck_here", "_law_lots"] (defScope s_law_odd_points) := ⟨rfl, rfl, rfl, by decide +kernel, rfl, by decide +kernel, by decide +kernel⟩
/-! ### _law_odd_points -/
def sp__law_odd_points (_ : PySem.W.Frag) (_ : List Addr) : Sp := fun vs H Q _ => ∃ (p : Addr) (l : Addr) (rs : List V) (lots : List (List Int)), vs = [.ref p, .ref l] ∧ Deck H p ∧ TF H l rs ∧ Lots H rs lots ∧ (∀ x ∈ lots, x.length ≤ 60) ∧ (∀ x ∈ lots, x ≠ []) ∧ lots.length ≤ 300 ∧
  ∀ (H' : Hp) (a : Addr) (ys : List V), Dk p H H' → H a = none → H' a = some (.lst ys) → ThJ H' ys → ys.length ≤ 6 → Q (.ref a) H'
abbrev nm__law_bent_ways : List Str := ["_law_deck_here", "_law_web_here", "_law_ways", "_law_at", "_law_thing"]
theorem sc__law_bent_ways : FnScope nm__law_bent_ways ["_law_deck_here", "_law_web_here", "_law_ways"] (defScope s_law_bent_ways) := ⟨rfl, rfl, rfl, by decide +kernel, rfl, by decide +kernel, by decide +kernel⟩
/-! ### _law_bent_ways -/
def sp__law_bent_ways (_ : PySem.W.Frag) (_ : List Addr) : Sp := fun vs H Q _ => ∃ (p : Addr) (v : V) (n : Int) (ts : List (Int × Int)) (w : Addr) (ws : List Int), vs = [.ref p, v, .ref w] ∧ Deck H p ∧ Web H v n ts ∧ 1 ≤ n ∧ n ≤ 60 ∧ TF H w (ws.map V.int) ∧ ws.length ≤ 500 ∧
  ∀ (H' : Hp) (y : V) (o : Option (List V)), Dk p H H' → ThF H' y o → Q y H'
abbrev nm_law : List Str := ["_law_script", "_law_deck_here", "_law_web_here", "_law_root_here", "_law_ways", "_law_lots", "_law_things", "_law_step", "_law_other", "_law_thing"]
theorem sc_law : FnScope nm_law ["_law_script"] (defScope s_law) := ⟨rfl, rfl, rfl, by decide +kernel, rfl, by decide +kernel, by decide +kernel⟩
/-! ### law -/
theorem mx_in {l : List Int} (h : l ≠ []) : mx l ∈ l := by
  cases l with
  | nil => exact absurd rfl h
  | cons x r =>
    have key : ∀ (l : List Int) (a : Int), ∃ m, m ∈ a :: l ∧ ∀ y, y ∈ a :: l → y ≤ m := by
      intro l
      induction l with
      | nil => exact fun a => ⟨a, List.mem_cons_self, fun y hy => by rw [List.mem_singleton.mp hy]; exact Int.le_refl _⟩
      | cons b l ih =>
        intro a
        obtain ⟨m, h1, h2⟩ := ih b
        by_cases cm : m ≤ a
        · exact ⟨a, List.mem_cons_self, fun y hy => (List.mem_cons.mp hy).elim (fun z => by rw [z]; exact Int.le_refl _) fun z => Int.le_trans (h2 y z) cm⟩
        · exact ⟨m, List.mem_cons_of_mem _ h1, fun y hy => (List.mem_cons.mp hy).elim (fun z => by rw [z]; omega) (h2 y)⟩
    obtain ⟨m, h1, h2⟩ := key r x
    rw [← mx_is h1 h2]
    exact h1
theorem outs_mx {n : Int} (hn : 1 ≤ n) (ws : List Int) : ∃ p, 0 ≤ p ∧ p < n ∧ (ws.count p : Int) = mx (outsL n ws) := by
  have hne : outsL n ws ≠ [] := fun z => by
    have := outsL_length n ws
    rw [z] at this
    have : (0 : Nat) = n.toNat := this
    omega
  have := mx_in hne
  unfold outsL at this ⊢
  obtain ⟨p, hp, e⟩ := List.mem_map.mp this
  obtain ⟨p0, p1⟩ := upTo_mem.mp hp
  exact ⟨p, p0, p1, e⟩
theorem LotsE.bd {n : Int} {ts : List (Int × Int)} {root : V} {ws : List Int} {lots : List (List Int)} (h : LotsE n ts root ws lots) {i : Nat} {ls : List Int} (e : lots[i]? = some ls) : ls.length ≤ n.toNat := by
  obtain ⟨up, R, ss, hR, _, hm⟩ := h.each i ls e
  have hb : ∀ x ∈ ls, 0 ≤ x ∧ x < n := fun x hx => hR.bd x ((hm x).mp hx).1
  have := nd_le (up.imp fun z => by omega) (l := ls) (m := upTo n) fun x hx => upTo_mem.mpr (hb x hx)
  rw [upTo_length] at this
  exact this
theorem LotsE.le {n : Int} {ts : List (Int × Int)} {root : V} {ws : List Int} {lots : List (List Int)} (hn : 1 ≤ n) (h : LotsE n ts root ws lots) : lots.length ≤ ws.length := by
  have hl := h.len
  obtain ⟨p, _, _, e⟩ := outs_mx hn ws
  have := List.count_le_length (a := p) (l := ws)
  unfold topF at hl
  split at hl <;> omega
theorem LotsE.ne {n : Int} {ts : List (Int × Int)} {root : V} {ws : List Int} {lots : List (List Int)} (hn : 1 ≤ n) (hne : ∀ w ∈ ws, V.int w ≠ root) (h : LotsE n ts root ws lots) {i : Nat} {ls : List Int} (e : lots[i]? = some ls) : ls ≠ [] := by
  have hl := h.len
  have hi := (List.getElem?_eq_some_iff.mp e).1
  obtain ⟨p, p0, p1, em⟩ := outs_mx hn ws
  obtain ⟨up, R, ss, hR, hss, hm⟩ := h.each i ls e
  have hc : (1 + (i : Int)) < (ws.count p : Int) := by
    unfold topF at hl
    split at hl <;> omega
  exact List.ne_nil_of_mem ((hm p).mpr ⟨hR.base p ((hss p).mpr ⟨⟨p0, p1⟩, hc⟩), hne p (List.count_pos_iff.mp (by omega))⟩)
def sp_law (K : PySem.W.Frag) (tb : List Addr) : Sp := fun vs H Q _ => ∃ (a : Addr) (ns : List Int), vs = [.ref a] ∧ SqL K H a (ns.map V.int) ∧ ns.length ≤ 63 ∧ Tabs tb H ∧ ∀ H', Q (.bl true) H'
theorem law_start {K : PySem.W.Frag} {tb : List Addr} {H : Hp} {a : Addr} {ns : List Int} (hl : ns.length ≤ 63) (_ : ∀ z ∈ ns, Builtin.Int.intBits z ≤ 1048576) (hT : Tabs tb H) (hS : SqL K H a (ns.map V.int)) : sp_law K tb [.ref a] H (fun v _ => v = .bl true) (fun _ _ _ => False) :=
  ⟨a, ns, rfl, hS, hl, hT, fun _ => rfl⟩
end FF
namespace FF
open PySem PySem.Spec PyProof.Rows L2
variable [LT]
theorem ok_is_number {P : Program} {w : World} {K : PySem.W.Frag} {mg : Str → Option Value} {base : Heap} {tb : List Addr} {f : Addr} {fd : FuncData} (T : Blt mg) (D_is_number : DefAt K mg "is_number" s_is_number ["thing", "least", "most"] f fd) :
    FnOk P w K mg base CX0 1 f fd ["thing", "least", "most"] (sp_is_number K tb) := by
  refine D_is_number.ok sc_is_number (fun vs H Q E h => by
    obtain ⟨v, lo, hi, n, rfl, hv, q⟩ := h
    all_goals rfl) fun A outer s H vs Q E hr h => ?_
  obtain ⟨v, lo, hi, n, rfl, hv, q⟩ := h
  refine ⟨_, pss_cons (ps_if (PW.pt (pw_or (pt_not (pt_val (pe_callB (isiK (K := K)) (by rfl) T.b_isinstance (by decide +kernel) (pa_cons (pv 0) (pa_cons (pe_bltn (v := .ty "int") (u := .type "int") (by rfl) T.b_int (by decide +kernel) rfl) pa_nil))))) (pw_or1 (pt_val (pe_callB (isiK (K := K)) (by rfl) T.b_isinstance (by decide +kernel) (pa_cons (pv 0) (pa_cons (pe_bltn (v := .ty "bool") (u := .type "bool") (by rfl) T.b_bool (by decide +kernel) rfl) pa_nil)))))))
     (pss_one (ps_ret (pe_bl)))
     (pss_nil))
     (pss_one (ps_ret (pe_chain op_le op_le (pv 1) (pv 0) (pv 2)))), ?_⟩
  refine ⟨_, rfl, v, _, _, _, _, rfl, .ty _, hv.x, hv.isi (.inl rfl), _, rfl, ?_⟩
  cases hv with
  | int i =>
    refine iteF ⟨_, rfl, _, _, _, _, false, rfl, .ty _, (TyF.int i).x, (TyF.int (H := H) i).isi (.inr (.inl rfl)), false, rfl, iteF ?_⟩
    refine ⟨_, rfl, _, rfl, _, _, rfl, rfl, _, rfl, iteB (fun e => ⟨_, rfl, _, _, rfl, rfl, ?_⟩) (fun e => ?_)⟩
    · have z : isNum (.int i) lo hi = decide (i ≤ hi) := by show (decide (lo ≤ i) && decide (i ≤ hi)) = _; rw [e, Bool.true_and]
      rw [z] at q
      exact q
    · have z : isNum (.int i) lo hi = false := by show (decide (lo ≤ i) && decide (i ≤ hi)) = _; rw [e, Bool.false_and]
      rw [z] at q
      exact q
  | bl b => exact iteF ⟨_, rfl, _, _, _, _, true, rfl, .ty _, (TyF.bl b).x, (TyF.bl (H := H) b).isi (.inr (.inl rfl)), true, rfl, iteT q⟩
  | non => exact iteT (iteT q)
  | str x => exact iteT (iteT q)
  | lst h => exact iteT (iteT q)
  | tup h => exact iteT (iteT q)
  | dic h => exact iteT (iteT q)
  | tf h => exact iteT (iteT q)
theorem ok_is_rising {P : Program} {w : World} {K : PySem.W.Frag} {mg : Str → Option Value} {base : Heap} {tb : List Addr} {f : Addr} {fd : FuncData} {f_is_number : Addr} {fd_is_number : FuncData} (T : Blt mg) (D_is_rising : DefAt K mg "is_rising" s_is_rising ["thing", "most"] f fd) (D_is_number : DefAt K mg "is_number" s_is_number ["thing", "least", "most"] f_is_number fd_is_number) (G_is_number : FnOk P w K mg base CX0 1 f_is_number fd_is_number ["thing", "least", "most"] (sp_is_number K tb)) :
    FnOk P w K mg base CX0 2 f fd ["thing", "most"] (sp_is_rising K tb) := by
  refine D_is_rising.ok sc_is_rising (fun vs H Q E h => by
    obtain ⟨t, m, o, rfl, ht, q⟩ := h
    all_goals rfl) fun A outer s H vs Q E hr h => ?_
  obtain ⟨t, m, o, rfl, ht, q⟩ := h
  refine ⟨_, pss_cons (ps_if (pt_not (pt_val (pe_callB (isiK (K := K)) (by rfl) T.b_isinstance (by decide +kernel) (pa_cons (pv 0) (pa_cons (pe_bltn (v := .ty "tuple") (u := .type "tuple") (by rfl) T.b_tuple (by decide +kernel) rfl) pa_nil)))))
     (pss_one (ps_ret (pe_bl)))
     (pss_nil))
     (pss_cons (ps_set (i := 2) sc_is_rising.nd rfl (.inl rfl) (pe_int))
     (pss_cons (ps_for PassesOwn.never rfl (pi_tup (pv 0)) (pg_name (i := 3) sc_is_rising.nd rfl (.inl rfl))
     (pss_cons (ps_if (pt_not (pt_val (pe_call G_is_number (hr.mono (by decide)) (by rfl) D_is_number.g D_is_number.F.kp D_is_number.b .nil pass0 (pa_cons (pv 3) (pa_cons (pv 2) (pa_cons (pv 1) pa_nil))))))
     (pss_one (ps_ret (pe_bl)))
     (pss_nil))
     (pss_one (ps_set (i := 2) sc_is_rising.nd rfl (.inl rfl) (pe_op op_add (pv 3) (pe_int))))))
     (pss_one (ps_ret (pe_bl))))), ?_⟩
  cases ht with
  | @no _ nm h hn =>
    refine ⟨_, rfl, t, _, _, _, _, rfl, .ty _, h.x, isi_noF h hn, _, rfl, ?_⟩
    exact iteT q
  | @yes a xs h ht hx =>
    refine ⟨_, rfl, _, _, _, _, true, rfl, .ty _, ht, isi_yes, true, rfl, iteF ?_⟩
    refine ⟨_, rfl, a, rfl, ⟨_, h⟩, ?_⟩
    refine for_tup (K := K) (a := a) (xs := xs) (fun i σ G => ∃ (lo : Int) (y : Option V), σ = [some (.ref a), some (.int m), some (.int lo), y] ∧ G = H ∧ rising (m + 1) 0 xs = rising (m + 1) lo (xs.drop i)) ⟨0, none, rfl, rfl, rfl⟩ (fun i σ G _ hG => ?_) (fun i x σ G hxi hG => ?_) (fun σ G hG => ?_)
    · obtain ⟨lo, y, _, rfl, _⟩ := hG
      exact h
    · obtain ⟨lo, y, rfl, rfl, hr⟩ := hG
      have hi : i < xs.length := (List.getElem?_eq_some_iff.mp hxi).1
      have hd : xs.drop i = x :: xs.drop (i + 1) := by
        rw [List.drop_eq_getElem_cons hi]
        congr 1
        exact Option.some.inj ((List.getElem?_eq_getElem hi).symm.trans hxi)
      rw [hd] at hr
      obtain ⟨nm, hty⟩ := hx x (List.mem_of_getElem? hxi)
      refine ⟨_, rfl, _, rfl, _, rfl, x, lo, m, nm, rfl, hty, _, rfl, ?_⟩
      cases x with
      | int j =>
        have hr2 : rising (m + 1) 0 xs = (isNum (.int j) lo (m + 1 - 1) && rising (m + 1) (j + 1) (xs.drop (i + 1))) := hr
        rw [Int.add_sub_cancel] at hr2
        cases hb : isNum (.int j) lo m with
        | false =>
          rw [hb, Bool.false_and] at hr2
          have q : Q (.bl (rising (m + 1) 0 xs)) G := q
          rw [hr2] at q
          exact iteT q
        | true =>
          rw [hb, Bool.true_and] at hr2
          exact iteF ⟨_, rfl, _, _, rfl, rfl, j + 1, _, rfl, rfl, hr2⟩
      | _ =>
        have hr2 : rising (m + 1) 0 xs = false := hr
        have q : Q (.bl (rising (m + 1) 0 xs)) G := q
        rw [hr2] at q
        exact iteT q
    · obtain ⟨lo, y, rfl, rfl, hr⟩ := hG
      rw [List.drop_of_length_le (Nat.le_refl _)] at hr
      have hr2 : rising (m + 1) 0 xs = true := hr
      have q : Q (.bl (rising (m + 1) 0 xs)) G := q
      rw [hr2] at q
      exact q
theorem ok_shares_of {P : Program} {w : World} {K : PySem.W.Frag} {mg : Str → Option Value} {base : Heap} {tb : List Addr} {f : Addr} {fd : FuncData} (T : Blt mg) (D_shares_of : DefAt K mg "shares_of" s_shares_of ["points", "holders"] f fd) :
    FnOk P w K mg base CX0 1 f fd ["points", "holders"] (sp_shares_of K tb) := by
  refine D_shares_of.ok sc_shares_of (fun vs H Q E h => by
    obtain ⟨n, a, ws, rfl, hn0, hn1, ha, hbd, q⟩ := h
    all_goals rfl) fun A outer s H vs Q E hr h => ?_
  obtain ⟨n, a, ws, rfl, hn0, hn1, ha, hbd, q⟩ := h
  refine ⟨_, pss_cons (ps_set (i := 2) sc_shares_of.nd rfl (.inl rfl) (pe_op op_rep (pe_lst (pa_cons (pe_int) pa_nil)) (pv 0)))
     (pss_cons (ps_for PassesOwn.never rfl ((pi_seq (K := K)) (pv 1)) (pg_name (i := 3) sc_shares_of.nd rfl (.inl rfl))
     (pss_one (ps_augS (pv 2) (pv 3) (get_listK (K := K)) (pe_int) ip_add set_list)))
     (pss_one (ps_ret (pv 2)))), ?_⟩
  have LB := line_big
  refine ⟨by show 1 ≤ sizeLine; decide, fun z nz => ?_⟩
  refine ⟨_, rfl, z, n, _, rfl, rfl, upd_same, by omega, by omega, by show 1 * n.toNat ≤ sizeLine; omega, fun o no => ?_⟩
  rw [rep_ints, ← outsL_nil]
  have k0 : Ke H (upd (upd H z (.lst [.int 0])) o (.lst ((outsL n []).map V.int))) := (Ke.new nz).trans (Ke.new no)
  have nHo := (Ke.new (S := fun _ => False) (o := .lst [.int 0]) nz).dom _ no
  refine ⟨_, rfl, a, ws.map V.int, rfl, ?_⟩
  rcases ha with ha | ha
  · refine .inl ⟨sqL_ke ha k0, ?_⟩
    refine for_list (K := K) (a := a) (xs := ws.map V.int) (fun i σ G => ∃ y3 : Option V, σ = [some (.int n), some (.ref a), some (.ref o), y3] ∧ Ke H G ∧ G o = some (.lst ((outsL n (ws.take i)).map V.int))) ⟨_, rfl, k0, upd_same⟩ (fun i σ G _ hG => ?_) (fun i x σ G hx hG => ?_) (fun σ G hG => ?_)
    · obtain ⟨_, _, k, _⟩ := hG
      exact sqL_ke ha k
    · obtain ⟨y3, rfl, kG, go⟩ := hG
      obtain ⟨w, hw, rfl⟩ := int_at hx
      obtain ⟨w0, w1⟩ := hbd w (List.mem_of_getElem? hw)
      have hl : ((outsL n (ws.take i)).length : Int) = n := by rw [outsL_length]; omega
      refine ⟨_, rfl, _, rfl, o, _, w, _, rfl, rfl, sqL_of go, hat_at w0 (by omega), _, _, rfl, rfl, ?_⟩
      refine ⟨o, _, w, w.toNat, rfl, rfl, go, ix_in w0 (by rw [List.length_map]; omega), ?_⟩
      refine ⟨_, rfl, kG.over nHo, ?_⟩
      rw [upd_same, take_next hw, ← outsL_snoc w0 w1, List.map_set]
    · obtain ⟨y3, rfl, kG, go⟩ := hG
      rw [List.length_map, List.take_length] at go
      exact ⟨_, rfl, q _ o kG nHo go⟩
  · refine .inr ⟨sqT_ke ha k0, ?_⟩
    refine for_tup (K := K) (a := a) (xs := ws.map V.int) (fun i σ G => ∃ y3 : Option V, σ = [some (.int n), some (.ref a), some (.ref o), y3] ∧ Ke H G ∧ G o = some (.lst ((outsL n (ws.take i)).map V.int))) ⟨_, rfl, k0, upd_same⟩ (fun i σ G _ hG => ?_) (fun i x σ G hx hG => ?_) (fun σ G hG => ?_)
    · obtain ⟨_, _, k, _⟩ := hG
      exact sqT_ke ha k
    · obtain ⟨y3, rfl, kG, go⟩ := hG
      obtain ⟨w, hw, rfl⟩ := int_at hx
      obtain ⟨w0, w1⟩ := hbd w (List.mem_of_getElem? hw)
      have hl : ((outsL n (ws.take i)).length : Int) = n := by rw [outsL_length]; omega
      refine ⟨_, rfl, _, rfl, o, _, w, _, rfl, rfl, sqL_of go, hat_at w0 (by omega), _, _, rfl, rfl, ?_⟩
      refine ⟨o, _, w, w.toNat, rfl, rfl, go, ix_in w0 (by rw [List.length_map]; omega), ?_⟩
      refine ⟨_, rfl, kG.over nHo, ?_⟩
      rw [upd_same, take_next hw, ← outsL_snoc w0 w1, List.map_set]
    · obtain ⟨y3, rfl, kG, go⟩ := hG
      rw [List.length_map, List.take_length] at go
      exact ⟨_, rfl, q _ o kG nHo go⟩
theorem ok_is_lot {P : Program} {w : World} {K : PySem.W.Frag} {mg : Str → Option Value} {base : Heap} {tb : List Addr} {f : Addr} {fd : FuncData} {f_is_rising : Addr} {fd_is_rising : FuncData} (T : Blt mg) (D_is_lot : DefAt K mg "is_lot" s_is_lot ["web", "thing"] f fd) (D_is_rising : DefAt K mg "is_rising" s_is_rising ["thing", "most"] f_is_rising fd_is_rising) (G_is_rising : FnOk P w K mg base CX0 2 f_is_rising fd_is_rising ["thing", "most"] (sp_is_rising K tb)) :
    FnOk P w K mg base CX0 3 f fd ["web", "thing"] (sp_is_lot K tb) := by
  refine D_is_lot.ok sc_is_lot (fun vs H Q E h => by
    obtain ⟨v, t, n, ts, o, rfl, W, ht, q⟩ := h
    all_goals rfl) fun A outer s H vs Q E hr h => ?_
  obtain ⟨v, t, n, ts, o, rfl, W, ht, q⟩ := h
  refine ⟨_, pss_one (ps_ret (pe_and (pe_call G_is_rising (hr.mono (by decide)) (by rfl) D_is_rising.g D_is_rising.F.kp D_is_rising.b .nil pass0 (pa_cons (pv 1) (pa_cons (pe_op op_sub (pe_ix (ix_tupK (K := K)) (pv 0) (pe_int) (fun _ _ => rfl)) (pe_int)) pa_nil))) (pe_one (pe_cmpR op_gt (pe_callB (lenK (K := K)) (by rfl) T.b_len PySem.boot_len (pa_cons (pv 1) pa_nil)) (pe_int) (nomark _))))), ?_⟩
  obtain ⟨tw, u, rs, rfl, htw, hu, hT⟩ := W
  refine ⟨_, rfl, _, rfl, tw, _, 0, _, rfl, rfl, sqT_of htw, atI_nat (j := 0) rfl, _, _, rfl, rfl, t, n - 1, o, rfl, ht, _, rfl, ?_⟩
  rw [lotO_ris] at q
  cases hb : risO (n - 1) o with
  | false =>
    rw [hb, Bool.false_and] at q
    exact iteF q
  | true =>
    rw [hb, Bool.true_and] at q
    cases ht with
    | no h hn => cases hb
    | @yes a xs h ht hx =>
      refine iteT ⟨_, rfl, a, _, rfl, .inr h, _, _, rfl, rfl, ?_⟩
      have e : decide ((0 : Int) < (xs.length : Int)) = !xs.isEmpty := by
        cases xs with
        | nil => rfl
        | cons x r => exact decide_eq_true (by rw [List.length_cons]; omega)
      show Q (.bl (decide ((0 : Int) < (xs.length : Int)))) H
      rw [e]
      exact q
theorem ok_is_ways {P : Program} {w : World} {K : PySem.W.Frag} {mg : Str → Option Value} {base : Heap} {tb : List Addr} {f : Addr} {fd : FuncData} {f_is_number : Addr} {fd_is_number : FuncData} (T : Blt mg) (D_is_ways : DefAt K mg "is_ways" s_is_ways ["web", "thing"] f fd) (D_is_number : DefAt K mg "is_number" s_is_number ["thing", "least", "most"] f_is_number fd_is_number) (G_is_number : FnOk P w K mg base CX0 1 f_is_number fd_is_number ["thing", "least", "most"] (sp_is_number K tb)) {c Pt : Addr} (TB : LamX.TabB base mg c Pt) (hcd : fd.code = .ref c) (hPt : Pt ∈ tb) :
    FnOk P w K mg base CX0 5 f fd ["web", "thing"] (sp_is_ways K tb) := by
  refine D_is_ways.ok sc_is_ways (fun vs H Q E h => by
    obtain ⟨v, th, n, ts, o, rfl, W, hok, hlen, hth, hT0, q⟩ := h
    all_goals rfl) fun A outer s H vs Q E hr h => ?_
  obtain ⟨v, th, n, ts, o, rfl, W, hok, hlen, hth, hT0, q⟩ := h
  refine ⟨_, pss_cons (ps_if (PW.pt (pw_or (pt_not (pt_val (pe_callB (isiK (K := K)) (by rfl) T.b_isinstance (by decide +kernel) (pa_cons (pv 1) (pa_cons (pe_bltn (v := .ty "tuple") (u := .type "tuple") (by rfl) T.b_tuple (by decide +kernel) rfl) pa_nil))))) (pw_or1 (pt_cmpR op_ne (pe_callB (lenK (K := K)) (by rfl) T.b_len PySem.boot_len (pa_cons (pv 1) pa_nil)) (pe_callB (lenK (K := K)) (by rfl) T.b_len PySem.boot_len (pa_cons (pe_ix (ix_tupK (K := K)) (pv 0) (pe_int) (fun _ _ => rfl)) pa_nil)) (nomark _)))))
     (pss_one (ps_ret (pe_bl)))
     (pss_nil))
     (pss_one (ps_ret (pe_all (k := 1) (vs := [0, 1, 2]) (hr.mono (by decide)) (by rfl) T.b_all (by decide +kernel) TB hcd (gxs_of (XN := nm_is_ways) (xsc := defScope s_is_ways) (N := ["point", "a", "b"]) (src := [none, none, none]) (by decide +kernel)) (RZ.pi_zipA (by rfl) T.b_zip (pa_cons (pe_ix (ix_tupK (K := K)) (pv 0) (pe_int) (fun _ _ => rfl)) (pa_cons (pv 1) pa_nil))) ⟨fun _ _ _ _ _ _ => tgtK (K := K) (n := 2) (pgs_cons (tgtK (K := K) (n := 2) (pgs_cons (pg_name (i := 1) gnd_is_ways_0 rfl (.inl rfl)) (pgs_cons (pg_name (i := 2) gnd_is_ways_0 rfl (.inl rfl)) pgs_nil))) (pgs_cons (pg_name (i := 0) gnd_is_ways_0 rfl (.inl rfl)) pgs_nil)), fun _ _ _ _ _ _ hz => pts_nil, fun _ _ _ _ _ _ hz => pe_and (pe_call G_is_number (hz.mono (by decide)) (by rfl) D_is_number.g D_is_number.F.kp D_is_number.b .nil pass0 (pa_cons (pv 0) (pa_cons (pv 1) (pa_cons (pv 2) pa_nil)))) (pe_one (pe_cmpR (in_seqK (K := K)) (pv 0) (pe_tup (pa_cons (pv 1) (pa_cons (pv 2) pa_nil))) (by rfl)))⟩))), ?_⟩
  obtain ⟨tw, u, rs, rfl, htw, hu, hT⟩ := id W
  have hrl := hT.length
  cases hth with
  | @no _ nm h hn =>
    refine ⟨_, rfl, th, _, _, _, _, rfl, .ty _, h.x, isi_noF h hn, _, rfl, ?_⟩
    exact iteT (iteT (q H .refl))
  | @yes a xs h ht hx =>
    refine ⟨_, rfl, _, _, _, _, true, rfl, .ty _, ht, isi_yes, true, rfl, iteF ?_⟩
    refine ⟨_, rfl, a, _, rfl, .inr h, _, rfl, tw, _, 1, _, rfl, rfl, sqT_of htw, atI_nat (j := 1) rfl, u, _, rfl, .inr (sqT_of hu), rfl, _, rfl, ?_⟩
    refine iteB (fun hb => ?_) (fun hb => ?_)
    · have e : waysO ts (some xs) = false := by
        rw [Bool.eq_false_iff]
        intro z
        have hb : (!decide (V.int (xs.length : Int) = V.int (rs.length : Int))) = true := hb
        rw [hrl, endsB_len z, decide_eq_true rfl] at hb
        cases hb
      have q0 := q H .refl
      rw [e] at q0
      exact q0
    have hl : xs.length = ts.length := by
      have hb : (!decide (V.int (xs.length : Int) = V.int (rs.length : Int))) = false := hb
      rw [decide_int] at hb
      by_cases z : (xs.length : Int) = (rs.length : Int)
      · omega
      · rw [decide_eq_false z] at hb
        cases hb
    refine ⟨_, rfl, tw, _, 1, _, rfl, rfl, sqT_of htw, atI_nat (j := 1) rfl, _, rfl, u, a, rs, xs, rfl, .inr ⟨sqT_of hu, h, hT0 _ hPt, fun H2 htb => ?_⟩⟩
    have k2 := Ke.tabd (hT0 _ hPt) htb
    refine gx_all (walk_zipT (K := K) (a := u) (b := a) (xs := rs) (ys := xs) rfl) (fun i G => Ke H G ∧ ∀ (j : Nat) (t : Int × Int) (x : V), j < i → ts[j]? = some t → xs[j]? = some x → isEnd t x = true) ⟨k2, fun _ _ _ z => absurd z (Nat.not_lt_zero _)⟩ (fun i G _ hG => ⟨sqT_of (hG.1.tup hu), sqT_ke h hG.1⟩) (fun i x G G' hi hG hy => ?_) (fun G hG => ?_)
    · obtain ⟨kG, ho⟩ := hG
      obtain ⟨T1, y1, y2, rfl, nT, rfl, e1, e2⟩ := hy
      have e1 : rs[i]? = some y1 := e1
      have e2 : xs[i]? = some y2 := e2
      obtain ⟨⟨x1, x2⟩, qq, hti, rfl, hq⟩ := hT.get e1
      obtain ⟨ok1, ok2, ok3⟩ := hok _ (List.mem_of_getElem? hti)
      dsimp only at ok1 ok2 ok3
      obtain ⟨nm, hty⟩ := hx y2 (List.mem_of_getElem? e2)
      have kT : Ke H (upd G T1 (.tup [.ref qq, y2])) := kG.trans (Ke.new nT)
      have step : isEnd (x1, x2) y2 = true → ∀ (j : Nat) (t : Int × Int) (x : V), j < i + 1 → ts[j]? = some t → xs[j]? = some x → isEnd t x = true := fun he j t x hj h1 h2 => by
        by_cases ej : j = i
        · subst ej
          rw [hti] at h1
          rw [e2] at h2
          cases h1
          cases h2
          exact he
        · exact ho j t x (by omega) h1 h2
      have stop : isEnd (x1, x2) y2 = false → waysO ts (some xs) = false := fun he => by
        rw [Bool.eq_false_iff]
        intro z
        have := (endsB_iff hl).mp z i _ _ hti e2
        rw [he] at this
        cases this
      refine ⟨T1, _, rfl, sqT_of upd_same, rfl, _, _, rfl, qq, _, rfl, sqT_of (Ke.tup kT hq), rfl, _, _, rfl, _, [], rfl, rfl, _, [], rfl, rfl, rfl, yes_ite ?_⟩
      refine ⟨_, rfl, _, rfl, _, rfl, y2, x1, x2, nm, rfl, hty.ke kT, _, rfl, ?_⟩
      cases y2 with
      | int z =>
        refine iteB (fun hb => ?_) (fun hb => ?_)
        · refine ⟨_, rfl, _, rfl, _, rfl, by show 2 ≤ sizeLine; decide, fun t2 nt2 => ?_⟩
          have kU : Ke H (upd _ t2 (.tup [.int x1, .int x2])) := kT.trans (Ke.new nt2)
          refine ⟨t2, [.int x1, .int x2], rfl, .inr (sqT_of upd_same), rfl, rfl, _, rfl, ?_⟩
          show if (inV (.int z) [.int x1, .int x2]) = false then _ else _
          have e : inV (.int z) [.int x1, .int x2] = isEnd (x1, x2) (.int z) := by
            have := inV_int z [x1, x2]
            refine this.trans ?_
            show decide (z ∈ [x1, x2]) = (decide (z = x1) || decide (z = x2))
            by_cases e1 : z = x1
            · rw [decide_eq_true e1, e1, decide_eq_true List.mem_cons_self]; rfl
            · by_cases e2 : z = x2
              · rw [decide_eq_true e2, e2, decide_eq_true (List.mem_cons_of_mem _ List.mem_cons_self), Bool.or_true]
              · rw [decide_eq_false e1, decide_eq_false e2, decide_eq_false (by simp [e1, e2])]; rfl
          by_cases hf : inV (.int z) [.int x1, .int x2] = false
          · refine (if_pos hf).mpr ?_
            have q0 := q _ kU
            rw [stop (e.symm.trans hf)] at q0
            exact q0
          · refine (if_neg hf).mpr ⟨kU, step ?_⟩
            rw [← e]
            simpa using hf
        · have he : isEnd (x1, x2) (.int z) = false := by
            have hb : (decide (x1 ≤ z) && decide (z ≤ x2)) = false := hb
            show (decide (z = x1) || decide (z = x2)) = false
            rw [Bool.eq_false_iff]
            intro hz
            rw [Bool.or_eq_true, decide_eq_true_eq, decide_eq_true_eq] at hz
            rw [decide_eq_true (by omega), decide_eq_true (by omega)] at hb
            cases hb
          have q0 := q _ kT
          rw [stop he] at q0
          exact ⟨false, rfl, (if_pos rfl).mpr q0⟩
      | _ =>
        have q0 := q _ kT
        rw [stop rfl] at q0
        exact iteF ⟨false, rfl, (if_pos rfl).mpr q0⟩
    · have e : waysO ts (some xs) = true := (endsB_iff hl).mpr fun i t x h1 h2 => hG.2 i t x (by
          have := (List.getElem?_eq_some_iff.mp h1).1
          omega) h1 h2
      have q0 := q G hG.1
      rw [e] at q0
      exact q0
theorem ok_is_closed {P : Program} {w : World} {K : PySem.W.Frag} {mg : Str → Option Value} {base : Heap} {tb : List Addr} {f : Addr} {fd : FuncData} {f_is_lot : Addr} {fd_is_lot : FuncData} (T : Blt mg) (D_is_closed : DefAt K mg "is_closed" s_is_closed ["web", "held", "shares", "q", "thing"] f fd) (D_is_lot : DefAt K mg "is_lot" s_is_lot ["web", "thing"] f_is_lot fd_is_lot) (G_is_lot : FnOk P w K mg base CX0 3 f_is_lot fd_is_lot ["web", "thing"] (sp_is_lot K tb)) {c Pt : Addr} (TB : LamX.TabB base mg c Pt) (hcd : fd.code = .ref c) (hPt : Pt ∈ tb) :
    FnOk P w K mg base CX0 5 f fd ["web", "held", "shares", "q", "thing"] (sp_is_closed K tb) := by
  refine D_is_closed.ok sc_is_closed (fun vs H Q E h => by
    obtain ⟨v, n, ts, hl, rs, held, sa, sh, k, t, o, rfl, W, hn0, hh, hP, hsa, hsl, ht, hrl, hgl, hT0, q⟩ := h
    all_goals rfl) fun A outer s H vs Q E hr h => ?_
  obtain ⟨v, n, ts, hl, rs, held, sa, sh, k, t, o, rfl, W, hn0, hh, hP, hsa, hsl, ht, hrl, hgl, hT0, q⟩ := h
  refine ⟨_, pss_cons (ps_if (pt_not (pt_val (pe_call G_is_lot (hr.mono (by decide)) (by rfl) D_is_lot.g D_is_lot.F.kp D_is_lot.b .nil pass0 (pa_cons (pv 0) (pa_cons (pv 4) pa_nil)))))
     (pss_one (ps_ret (pe_bl)))
     (pss_nil))
     (pss_cons (ps_for PassesOwn.never rfl (pi_enum (by rfl) T.b_enumerate (pa_cons (pv 2) pa_nil)) (tgtK (K := K) (n := 2) (pgs_cons (pg_name (i := 5) sc_is_closed.nd rfl (.inl rfl)) (pgs_cons (pg_name (i := 6) sc_is_closed.nd rfl (.inl rfl)) pgs_nil)))
     (pss_one (ps_if (PW.pt (pw_or (PW.pt (pw_and (pt_cmpR op_gt (pv 6) (pv 3) (nomark _)) (pw_and1 (pt_cmpR (notIn_seqK (K := K)) (pv 5) (pv 4) (by rfl))))) (pw_or1 (PW.pt (pw_and (pt_cmpR op_lt (pv 6) (pv 3) (nomark _)) (pw_and1 (pt_cmpR (in_seqK (K := K)) (pv 5) (pv 4) (by rfl))))))))
     (pss_one (ps_ret (pe_bl)))
     (pss_nil))))
     (pss_one (ps_ret (pe_all2 (k := 0) (vs := [1, 2, 3]) (vs1 := [3]) (hr.mono (by decide)) (by rfl) T.b_all (by decide +kernel) TB hcd (gxs_of (XN := nm_is_closed) (xsc := defScope s_is_closed) (N := ["thing", "holder", "group", "point"]) (src := [some 4, none, none, none]) (by decide +kernel)) (pi_list (pv 1)) ⟨fun _ _ _ _ _ _ => tgtK (K := K) (n := 2) (pgs_cons (pg_name (i := 1) gnd_is_closed_0 rfl (.inl rfl)) (pgs_cons (pg_name (i := 2) gnd_is_closed_0 rfl (.inl rfl)) pgs_nil)), fun _ _ _ _ _ _ hz => pts_one (pt_cmpR (in_seqK (K := K)) (pv 1) (pv 0) (by rfl)), fun _ _ _ _ _ _ hz => (pi_listK (K := K)) (pv 2), fun _ _ _ _ _ _ => pg_name (i := 3) gnd_is_closed_0 rfl (.inl rfl), fun _ _ _ _ _ _ hz => pe_cmpR (in_seqK (K := K)) (pv 3) (pv 0) (by rfl)⟩ (by decide))))), ?_⟩
  have LB := line_big
  refine ⟨_, rfl, _, rfl, v, t, n, ts, o, rfl, W, ht.k, ?_⟩
  cases c1 : lotO n o with
  | false =>
    have q0 := q H .refl
    rw [closB_no c1] at q0
    exact ⟨_, rfl, iteT q0⟩
  | true =>
  refine ⟨_, rfl, iteF ?_⟩
  obtain ⟨ls, rfl, hne, hup, hbd⟩ := lotO_inv c1
  rw [closB_in c1] at q
  cases ht with
  | @yes a _ hta _ hx =>
  refine ⟨_, rfl, sa, _, rfl, sqL_of hsa, ?_⟩
  refine for_it (walk_enum (K := K) (a := sa) (xs := sh.map V.int)) (fun i σ G => ∃ (y5 y6 : Option V), σ = [some v, some (.ref hl), some (.ref sa), some (.int k), some (.ref a), y5, y6] ∧ Ke H G ∧ ∀ p : Nat, p < i → ptB sh k ls p = true) ⟨_, _, rfl, .refl, fun _ z => absurd z (Nat.not_lt_zero _)⟩ (fun i σ G _ hG => ?_) (fun i z σ G G' hi hG hy' => ?_) (fun σ G hG => ?_)
  · obtain ⟨_, _, _, kG, _⟩ := hG
    exact sqL_of (kG.lst hsa)
  · obtain ⟨y5, y6, rfl, kG, hall⟩ := hG
    obtain ⟨T1, z1, y, rfl, nT, rfl, e1, hxi⟩ := hy'
    cases e1
    obtain ⟨s0, hs0, rfl⟩ := int_at hxi
    have kT := Ke.new (S := fun _ => False) (o := .tup [.int (i : Int), .int s0]) nT
    have kGT := kG.trans kT
    have gT : (upd G T1 (.tup [.int (i : Int), .int s0])) T1 = some (.tup [.int (i : Int), .int s0]) := upd_same
    generalize upd G T1 _ = G2 at *
    refine ⟨T1, _, rfl, sqT_of gT, rfl, _, _, rfl, _, [], rfl, rfl, ?_⟩
    have hta2 := (hta.ke kGT)
    rw [List.length_map] at hi
    have ehat : hat sh (i : Int) = s0 := by
      unfold hat
      rw [List.getD_eq_getElem?_getD, Int.toNat_natCast, hs0]
      rfl
    have ept : ptB sh k ls i = !((decide (k < s0) && !decide ((i : Int) ∈ ls)) || (decide (s0 < k) && decide ((i : Int) ∈ ls))) := by
      unfold ptB
      rw [ehat]
    have no : ptB sh k ls i = false → Q (.bl false) G2 := fun e => by
      have q0 := q G2 kGT
      rw [List.all_eq_false.mpr ⟨i, List.mem_range.mpr (by omega), by rw [e]; decide⟩, Bool.false_and] at q0
      exact q0
    have yes : ptB sh k ls i = true → ∀ p : Nat, p < i + 1 → ptB sh k ls p = true := fun e p hp => by
      by_cases cp : p = i
      · rw [cp, e]
      · exact hall p (by omega)
    refine ⟨_, rfl, _, rfl, _, _, rfl, rfl, _, rfl, ?_⟩
    by_cases c2 : k < s0
    · rw [decide_eq_true c2]
      refine (if_pos rfl).mpr ?_
      refine ⟨_, rfl, _, rfl, a, _, rfl, .inr hta2.sq, rfl, flat_ints ls, _, rfl, ?_⟩
      rw [inV_int]
      by_cases c3 : (i : Int) ∈ ls
      · rw [decide_eq_true c3]
        refine iteF ?_
        refine ⟨_, rfl, _, rfl, _, _, rfl, rfl, _, rfl, ?_⟩
        rw [decide_eq_false (show ¬ s0 < k by omega)]
        refine iteF (iteF ?_)
        exact ⟨_, _, rfl, kGT, yes (by rw [ept, decide_eq_true c2, decide_eq_true c3, decide_eq_false (show ¬ s0 < k by omega)]; rfl)⟩
      · rw [decide_eq_false c3]
        exact iteT (iteT (no (by rw [ept, decide_eq_true c2, decide_eq_false c3]; rfl)))
    · rw [decide_eq_false c2]
      refine (if_neg Bool.false_ne_true).mpr ?_
      refine iteF ?_
      refine ⟨_, rfl, _, rfl, _, _, rfl, rfl, _, rfl, ?_⟩
      by_cases c4 : s0 < k
      · rw [decide_eq_true c4]
        refine iteT ?_
        refine ⟨_, rfl, _, rfl, a, _, rfl, .inr hta2.sq, rfl, flat_ints ls, _, rfl, ?_⟩
        rw [inV_int]
        by_cases c3 : (i : Int) ∈ ls
        · rw [decide_eq_true c3]
          exact iteT (no (by rw [ept, decide_eq_false c2, decide_eq_true c3, decide_eq_true c4]; rfl))
        · rw [decide_eq_false c3]
          refine iteF ?_
          exact ⟨_, _, rfl, kGT, yes (by rw [ept, decide_eq_false c2, decide_eq_false c3, decide_eq_true c4]; rfl)⟩
      · rw [decide_eq_false c4]
        refine iteF (iteF ?_)
        exact ⟨_, _, rfl, kGT, yes (by rw [ept, decide_eq_false c2, decide_eq_false c4]; rfl)⟩
  · obtain ⟨y5, y6, rfl, kG, hall⟩ := hG
    rw [List.length_map] at hall
    rw [List.all_eq_true.mpr fun p hp => hall p (by have := List.mem_range.mp hp; omega), Bool.true_and] at q
    have hlG := kG.lst hh
    have hPG := hP.ke kG
    have htG := hta.ke kG
    have tG := hT0.kx kG
    refine ⟨_, rfl, hl, rfl, ⟨_, sqL_of hlG⟩, tG _ hPt, fun H2 htb => ?_⟩
    have k2 := Ke.tabd (tG _ hPt) htb
    have kA := kG.trans k2
    have hPA := hPG.ke k2
    have hrle := hP.length
    refine gz_out (walk_list (K := K) (a := hl) (xs := rs)) (fun i => ((held.drop i).map fun e => e.2.length + 1).sum) (fun i G => Ke H2 G ∧ ∀ e ∈ held.take i, heB ls e = true) ⟨.refl, fun _ z => nomatch z⟩ (fun i G _ hG => sqL_of (hG.1.lst (k2.lst hlG))) (fun i x G G' hi hG hy => ?_) (fun G hG => ?_)
    · obtain ⟨k3, hall2⟩ := hG
      obtain ⟨rfl, hxi⟩ := hy
      obtain ⟨e, qe, ge, hei, rfl, he1, he2⟩ := (hPA.ke k3).get hxi
      have il : i < held.length := (List.getElem?_eq_some_iff.mp hei).1
      have em := List.mem_of_getElem? hei
      have hdr : ((held.drop i).map fun e => e.2.length + 1).sum = (e.2.length + 1) + ((held.drop (i + 1)).map fun e => e.2.length + 1).sum := by
        have e2 := (List.getElem?_eq_some_iff.mp hei).2
        rw [List.drop_eq_getElem_cons il, List.map_cons, List.sum_cons, e2]
      have kB := kA.trans k3
      have noB : heB ls e = false → Q (.bl false) G' := fun h => by
        have q0 := q G' kB
        rw [List.all_eq_false.mpr ⟨e, em, by rw [h]; decide⟩] at q0
        exact q0
      have tk1 : heB ls e = true → ∀ x ∈ held.take (i + 1), heB ls x = true := fun h x hx => by
        rw [take_next hei] at hx
        rcases List.mem_append.mp hx with hx | hx
        · exact hall2 x hx
        · rw [List.mem_singleton.mp hx]
          exact h
      have htB := hta.ke kB
      rw [hdr]
      refine ⟨qe, _, rfl, sqT_of he1, rfl, _, _, rfl, _, [], rfl, rfl, rfl, ?_⟩
      refine ⟨_, rfl, _, rfl, a, _, rfl, .inr htB.sq, rfl, flat_ints ls, _, rfl, ?_⟩
      rw [inV_int]
      by_cases ce : e.1 ∈ ls
      · rw [decide_eq_true ce]
        refine (if_pos rfl).mpr ?_
        refine ⟨_, rfl, ge, rfl, ⟨_, sqL_of he2⟩, ?_⟩
        refine gz_inn (walk_list (K := K) (a := ge) (xs := e.2.map V.int)) (c := ((held.drop (i + 1)).map fun e => e.2.length + 1).sum) (by rw [List.length_map]; omega) (fun j G => G = G' ∧ ∀ p ∈ e.2.take j, p ∈ ls) ⟨rfl, fun _ z => nomatch z⟩ (fun j G _ hG => by rw [hG.1]; exact sqL_of he2) (fun j x G G2 hj hG hy => ?_) (fun G hG => ?_)
        · obtain ⟨rfl, hall3⟩ := hG
          obtain ⟨rfl, hxj⟩ := hy
          obtain ⟨p, hp, rfl⟩ := int_at hxj
          refine ⟨rfl, ?_⟩
          refine ⟨_, rfl, _, rfl, a, _, rfl, .inr htB.sq, rfl, flat_ints ls, ?_⟩
          rw [inV_int]
          by_cases cp : p ∈ ls
          · rw [decide_eq_true cp]
            refine ⟨_, rfl, (if_neg (by decide)).mpr ⟨rfl, fun x hx => ?_⟩⟩
            rw [take_next hp] at hx
            rcases List.mem_append.mp hx with hx | hx
            · exact hall3 x hx
            · rw [List.mem_singleton.mp hx]
              exact cp
          · rw [decide_eq_false cp]
            refine ⟨_, rfl, (if_pos rfl).mpr (noB ?_)⟩
            unfold heB
            rw [decide_eq_true ce, List.all_eq_false.mpr ⟨p, List.mem_of_getElem? hp, by rw [decide_eq_false cp]; decide⟩]
            rfl
        · obtain ⟨rfl, hall3⟩ := hG
          rw [List.length_map, List.take_length] at hall3
          refine ⟨rfl, by omega, k3, tk1 ?_⟩
          unfold heB
          rw [List.all_eq_true.mpr fun p hp => decide_eq_true (hall3 p hp), Bool.or_true]
      · rw [decide_eq_false ce]
        refine (if_neg Bool.false_ne_true).mpr ?_
        refine ⟨_, by omega, rfl, by omega, k3, tk1 ?_⟩
        unfold heB
        rw [decide_eq_false ce]
        rfl
    · obtain ⟨k3, hall2⟩ := hG
      rw [hrle, List.take_length] at hall2
      have q0 := q G (kA.trans k3)
      rw [List.all_eq_true.mpr hall2] at q0
      exact q0
theorem ok_are_closed {P : Program} {w : World} {K : PySem.W.Frag} {mg : Str → Option Value} {base : Heap} {tb : List Addr} {f : Addr} {fd : FuncData} {f_shares_of : Addr} {fd_shares_of : FuncData} {f_is_closed : Addr} {fd_is_closed : FuncData} (T : Blt mg) (D_are_closed : DefAt K mg "are_closed" s_are_closed ["web", "held", "thing"] f fd) (D_shares_of : DefAt K mg "shares_of" s_shares_of ["points", "holders"] f_shares_of fd_shares_of) (G_shares_of : FnOk P w K mg base CX0 1 f_shares_of fd_shares_of ["points", "holders"] (sp_shares_of K tb)) (D_is_closed : DefAt K mg "is_closed" s_is_closed ["web", "held", "shares", "q", "thing"] f_is_closed fd_is_closed) (G_is_closed : FnOk P w K mg base CX0 5 f_is_closed fd_is_closed ["web", "held", "shares", "q", "thing"] (sp_is_closed K tb)) {c Pt : Addr} (TB : LamX.TabB base mg c Pt) (hcd : fd.code = .ref c) (hPt : Pt ∈ tb) :
    FnOk P w K mg base CX0 9 f fd ["web", "held", "thing"] (sp_are_closed K tb) := by
  refine D_are_closed.ok sc_are_closed (fun vs H Q E h => by
    obtain ⟨v, n, ts, hl, rs, held, t, o, rfl, W, hn0, hn1, hh, hP, hbd, ht, hrl, hgl, hT0, q⟩ := h
    all_goals rfl) fun A outer s H vs Q E hr h => ?_
  obtain ⟨v, n, ts, hl, rs, held, t, o, rfl, W, hn0, hn1, hh, hP, hbd, ht, hrl, hgl, hT0, q⟩ := h
  refine ⟨_, pss_cons (ps_set (i := 5) sc_are_closed.nd rfl (.inr rfl) (pe_call G_shares_of (hr.mono (by decide)) (by rfl) D_shares_of.g D_shares_of.F.kp D_shares_of.b .nil pass0 (pa_cons (pe_ix (ix_tupK (K := K)) (pv 0) (pe_int) (fun _ _ => rfl)) (pa_cons (pe_lc (own := [("holder", 3), ("group", 4)]) rfl sc_are_closed.nd (pi_list (pv 1)) (blkOk_by (own := [("holder", 3), ("group", 4)]) (N := nm_are_closed) (sc := defScope s_are_closed) (by decide +kernel)) (fun _ _ _ _ _ => tgtK (K := K) (n := 2) (pgs_cons (pg_name (i := 3) sc_are_closed.nd rfl (.inl rfl)) (pgs_cons (pg_name (i := 4) sc_are_closed.nd rfl (.inl rfl)) pgs_nil))) (fun _ _ _ _ _ => pts_nil) (fun _ _ _ _ _ => pv 3)) pa_nil))))
     (pss_cons (ps_if (PW.pt (pw_or (pt_not (pt_val (pe_callB (isiK (K := K)) (by rfl) T.b_isinstance (by decide +kernel) (pa_cons (pv 2) (pa_cons (pe_bltn (v := .ty "tuple") (u := .type "tuple") (by rfl) T.b_tuple (by decide +kernel) rfl) pa_nil))))) (pw_or1 (pt_cmpR op_ne (pe_callB (lenK (K := K)) (by rfl) T.b_len PySem.boot_len (pa_cons (pv 2) pa_nil)) (pe_callB (call_max2 rfl) (by rfl) T.b_max (by decide +kernel) (pa_cons (pe_int) (pa_cons (pe_op op_sub (pe_callB (maxK (K := K) rfl) (by rfl) T.b_max (by decide +kernel) (pa_cons (pv 5) pa_nil)) (pe_int)) pa_nil))) (nomark _)))))
     (pss_one (ps_ret (pe_bl)))
     (pss_nil))
     (pss_one (ps_ret (pe_all (k := 5) (vs := [3, 4]) (hr.mono (by decide)) (by rfl) T.b_all (by decide +kernel) TB hcd (gxs_of (XN := nm_are_closed) (xsc := defScope s_are_closed) (N := ["web", "held", "shares", "q", "lot"]) (src := [some 0, some 1, some 5, none, none]) (by decide +kernel)) (pi_enumT1 (K := K) (by rfl) T.b_enumerate (pa_cons (pv 2) pa_nil) (pk_cons (pe_int) pk_nil)) ⟨fun _ _ _ _ _ _ => tgtK (K := K) (n := 2) (pgs_cons (pg_name (i := 3) gnd_are_closed_0 rfl (.inl rfl)) (pgs_cons (pg_name (i := 4) gnd_are_closed_0 rfl (.inl rfl)) pgs_nil)), fun _ _ _ _ _ _ hz => pts_nil, fun _ _ _ _ _ _ hz => pe_call G_is_closed (hz.mono (by decide)) (by rfl) D_is_closed.g D_is_closed.F.kp D_is_closed.b .nil pass0 (pa_cons (pv 0) (pa_cons (pv 1) (pa_cons (pv 2) (pa_cons (pv 3) (pa_cons (pv 4) pa_nil)))))⟩)))), ?_⟩
  have LB := line_big
  obtain ⟨tw, w0, rs0, rfl, htw, hw0, hTt⟩ := id W
  have hrle := hP.length
  refine ⟨_, rfl, tw, _, 0, _, rfl, rfl, sqT_of htw, atI_nat (j := 0) rfl, ?_⟩
  refine ⟨_, rfl, hl, rfl, ⟨_, sqL_of hh⟩, fun D hD => ?_⟩
  refine lc_list (K := K) (a := hl) (xs := rs) (fun i G => Ke H G ∧ G D = some (.lst (((held.take i).map Prod.fst).map V.int))) ⟨Ke.new hD, upd_same⟩ (fun i G _ hG => sqL_of (hG.1.lst hh)) (fun i x G hx hG => ?_) (fun G hG => ?_)
  · obtain ⟨kG, gD⟩ := hG
    obtain ⟨e, qe, ge, hei, rfl, he1, he2⟩ := (hP.ke kG).get hx
    have il : i < held.length := (List.getElem?_eq_some_iff.mp hei).1
    refine ⟨qe, _, rfl, sqT_of he1, rfl, _, _, rfl, _, [], rfl, rfl, rfl, yes_ite ?_⟩
    refine ⟨_, rfl, _, gD, by rw [List.length_map, List.length_map, List.length_take]; omega, kG.over hD, ?_⟩
    rw [take_next hei, List.map_append, List.map_append]
    exact upd_same
  obtain ⟨kG, gD⟩ := hG
  rw [hrle, List.take_length] at gD
  refine ⟨n, D, held.map Prod.fst, rfl, by omega, hn1, .inl (sqL_of gD), fun w hw => ?_, fun H1 p1 k1 np1 gp1 => ?_⟩
  · obtain ⟨e, he, rfl⟩ := List.mem_map.mp hw
    exact hbd e he
  have kA := kG.trans k1
  have htA := ht.ke kA
  cases o with
  | none =>
    cases htA with
    | @no _ nm h hn =>
      refine ⟨_, rfl, t, _, _, _, _, rfl, .ty _, h.x, isi_noF h hn, _, rfl, ?_⟩
      exact iteT (iteT (q _ kA))
  | some ls =>
  cases htA with
  | @yes a _ hta hx =>
  refine ⟨_, rfl, _, _, _, _, true, rfl, .ty _, (hta.ty).x, isi_yes, true, rfl, iteF ?_⟩
  have hol := outsL_length n (held.map Prod.fst)
  refine ⟨_, rfl, a, _, rfl, .inr hta.sq, ?_⟩
  refine ⟨_, rfl, p1, _, rfl, sqL_of gp1, by omega, fun m hm hmx => ?_⟩
  have em := mx_is hm hmx
  subst em
  refine ⟨_, _, rfl, rfl, _, _, rfl, ?_⟩
  refine ⟨rfl, _, rfl, ?_⟩
  rw [List.length_map, decide_int]
  have eA : areB n held (some ls) = (decide ((ls.length : Int) = topF (outsL n (held.map Prod.fst))) && (List.range ls.length).all fun i => closB n held (outsL n (held.map Prod.fst)) (1 + (i : Int)) (ls.getD i (.non, none)).2) := rfl
  rw [eA] at q
  show (if (!decide ((ls.length : Int) = topF (outsL n (held.map Prod.fst)))) = true then _ else _)
  by_cases cl : (ls.length : Int) = topF (outsL n (held.map Prod.fst))
  rotate_left
  · rw [decide_eq_false cl] at q ⊢
    exact iteT (q _ kA)
  rw [decide_eq_true cl, Bool.true_and] at q
  rw [decide_eq_true cl]
  refine iteF ?_
  refine ⟨_, rfl, a, _, 1, rfl, rfl, hta.sq, ⟨by decide, by decide⟩, hT0.kx kA _ hPt, fun H2 htb => ?_⟩
  have k2 := Ke.tabd (hT0.kx kA _ hPt) htb
  have kB := kA.trans k2
  have hta2 := hta.ke k2
  refine gx_all (walk_enumT1 (K := K) (a := a) (k0 := 1) (xs := ls.map Prod.fst)) (fun i G => Ke H2 G ∧ ∀ j : Nat, j < i → closB n held (outsL n (held.map Prod.fst)) (1 + (j : Int)) (ls.getD j (.non, none)).2 = true) ⟨.refl, fun _ z => absurd z (Nat.not_lt_zero _)⟩ (fun i G _ hG => (hta2.ke hG.1).sq) (fun i e G G' hi hG hy' => ?_) (fun G hG => ?_)
  · obtain ⟨k3, hall⟩ := hG
    obtain ⟨T1, z1, y, rfl, nT, rfl, e1, hxi⟩ := hy'
    cases e1
    have kT := Ke.new (S := fun _ => False) (o := .tup [.int (1 + (i : Int)), y]) nT
    have k4 := k3.trans kT
    have kC := kB.trans k4
    have gT : (upd G T1 (.tup [.int (1 + (i : Int)), y])) T1 = some (.tup [.int (1 + (i : Int)), y]) := upd_same
    generalize upd G T1 _ = G2 at *
    obtain ⟨⟨y0, oo⟩, hoi, rfl⟩ : ∃ p, ls[i]? = some p ∧ p.1 = y := by
      have hxi : (ls.map Prod.fst)[i]? = some y := hxi
      rw [List.getElem?_map] at hxi
      cases hh : ls[i]? with
      | none => rw [hh] at hxi; cases hxi
      | some p => rw [hh] at hxi; exact ⟨p, rfl, Option.some.inj hxi⟩
    have egd : ls.getD i (.non, none) = (y0, oo) := by rw [List.getD_eq_getElem?_getD, hoi]; rfl
    have il : i < ls.length := (List.getElem?_eq_some_iff.mp hoi).1
    refine ⟨T1, _, rfl, sqT_of gT, rfl, _, _, rfl, _, [], rfl, rfl, rfl, ?_⟩
    refine yes_ite ?_
    refine ⟨_, rfl, _, rfl, _, rfl, _, rfl, _, rfl, .ref tw, n, ts, hl, rs, held, p1, outsL n (held.map Prod.fst), 1 + (i : Int), y0, oo, rfl, W.ke kC, by omega, Ke.lst kC hh, hP.ke kC, Ke.lst (k2.trans k4) gp1, hol, (hx _ (List.mem_of_getElem? hoi)).ke (k2.trans k4), hrl, hgl, hT0.kx kC, fun H5 k5 => ?_⟩
    cases c2 : closB n held (outsL n (held.map Prod.fst)) (1 + (i : Int)) oo with
    | false =>
      refine ⟨_, rfl, (if_pos rfl).mpr ?_⟩
      have q0 := q _ (kC.trans k5)
      rw [List.all_eq_false.mpr ⟨i, List.mem_range.mpr il, by rw [egd]; dsimp only; rw [c2]; decide⟩] at q0
      exact q0
    | true =>
      refine ⟨_, rfl, (if_neg (by decide)).mpr ⟨k4.trans k5, fun j hj => ?_⟩⟩
      by_cases cj : j = i
      · rw [cj, egd]
        exact c2
      · exact hall j (by omega)
  · obtain ⟨k3, hall⟩ := hG
    have q0 := q _ (kB.trans k3)
    rw [List.length_map] at hall
    rw [List.all_eq_true.mpr fun i hi => hall i (List.mem_range.mp hi)] at q0
    exact q0
theorem ok_right_even {P : Program} {w : World} {K : PySem.W.Frag} {mg : Str → Option Value} {base : Heap} {tb : List Addr} {f : Addr} {fd : FuncData} {f_is_ways : Addr} {fd_is_ways : FuncData} {f_are_closed : Addr} {fd_are_closed : FuncData} (T : Blt mg) (D_right_even : DefAt K mg "right_even" s_right_even ["web", "root", "thing"] f fd) (D_is_ways : DefAt K mg "is_ways" s_is_ways ["web", "thing"] f_is_ways fd_is_ways) (G_is_ways : FnOk P w K mg base CX0 5 f_is_ways fd_is_ways ["web", "thing"] (sp_is_ways K tb)) (D_are_closed : DefAt K mg "are_closed" s_are_closed ["web", "held", "thing"] f_are_closed fd_are_closed) (G_are_closed : FnOk P w K mg base CX0 9 f_are_closed fd_are_closed ["web", "held", "thing"] (sp_are_closed K tb)) :
    FnOk P w K mg base CX0 10 f fd ["web", "root", "thing"] (sp_right_even K tb) := by
  refine D_right_even.ok sc_right_even (fun vs H Q E h => by
    obtain ⟨v, n, ts, root, t, o, rfl, W, hr0, hok, hn0, hn1, hlen, ht, hT0, q⟩ := h
    all_goals rfl) fun A outer s H vs Q E hr h => ?_
  obtain ⟨v, n, ts, root, t, o, rfl, W, hr0, hok, hn0, hn1, hlen, ht, hT0, q⟩ := h
  refine ⟨_, pss_cons (ps_if (PW.pt (pw_or (pt_not (pt_val (pe_callB (isiK (K := K)) (by rfl) T.b_isinstance (by decide +kernel) (pa_cons (pv 2) (pa_cons (pe_bltn (v := .ty "tuple") (u := .type "tuple") (by rfl) T.b_tuple (by decide +kernel) rfl) pa_nil))))) (pw_or1 (pt_cmpR op_ne (pe_callB (lenK (K := K)) (by rfl) T.b_len PySem.boot_len (pa_cons (pv 2) pa_nil)) (pe_int) (nomark _)))))
     (pss_one (ps_ret (pe_bl)))
     (pss_nil))
     (pss_cons (ps_asg (pv 2) (tgtK (K := K) (n := 2) (pgs_cons (pg_name (i := 3) sc_right_even.nd rfl (.inl rfl)) (pgs_cons (pg_name (i := 4) sc_right_even.nd rfl (.inl rfl)) pgs_nil))))
     (pss_cons (ps_if (PW.pt (pw_or (pt_not (pt_val (pe_call G_is_ways (hr.mono (by decide)) (by rfl) D_is_ways.g D_is_ways.F.kp D_is_ways.b .nil pass0 (pa_cons (pv 0) (pa_cons (pv 3) pa_nil))))) (pw_or1 (pt_cmpR (in_seqK (K := K)) (pv 1) (pv 3) (by rfl)))))
     (pss_one (ps_ret (pe_bl)))
     (pss_nil))
     (pss_cons (ps_setLc (i := 8) (own := [("point", 5), ("tie", 6)]) rfl sc_right_even.nd rfl rfl (sw_true rfl rfl rfl (by decide +kernel)) (RZ.pi_zipA (by rfl) T.b_zip (pa_cons (pv 3) (pa_cons (pe_ix (ix_tupK (K := K)) (pv 0) (pe_int) (fun _ _ => rfl)) pa_nil))) (blkOk_by (own := [("point", 5), ("tie", 6)]) (N := nm_right_even) (sc := defScope s_right_even) (by decide +kernel)) (fun _ _ _ _ _ => tgtK (K := K) (n := 2) (pgs_cons (pg_name (i := 5) sc_right_even.nd rfl (.inl rfl)) (pgs_cons (pg_name (i := 6) sc_right_even.nd rfl (.inl rfl)) pgs_nil))) (fun _ _ _ _ _ => pts_nil) (fun _ _ _ _ _ => pe_tup (pa_cons (pv 5) (pa_cons (pe_lc (own := [("end", 7)]) rfl sc_right_even.nd ((pi_tupK (K := K)) (pv 6)) (blkOk_by (own := [("end", 7)]) (N := nm_right_even) (sc := relS csc_right_even_6_11 (defScope s_right_even)) (by decide +kernel)) (fun _ _ _ _ _ => pg_name (i := 7) sc_right_even.nd rfl (.inl rfl)) (fun _ _ _ _ _ => pts_one (pt_cmpR op_ne (pv 7) (pv 1) (nomark _))) (fun _ _ _ _ _ => pv 7)) pa_nil))))
     (pss_one (ps_ret (pe_call G_are_closed (hr.mono (by decide)) (by rfl) D_are_closed.g D_are_closed.F.kp D_are_closed.b .nil pass0 (pa_cons (pv 0) (pa_cons (pv 8) (pa_cons (pv 4) pa_nil))))))))), ?_⟩
  have LB := line_big
  cases ht with
  | @no _ nm h hn =>
    refine ⟨_, rfl, t, _, _, _, _, rfl, .ty _, h.x, isi_noF h hn, _, rfl, ?_⟩
    exact iteT (iteT (q H .refl))
  | @len a xs h hl =>
    refine ⟨_, rfl, _, _, _, _, true, rfl, .ty _, (h.ty).x, isi_yes, true, rfl, iteF ?_⟩
    refine ⟨_, rfl, a, _, rfl, .inr h.sq, rfl, _, rfl, ?_⟩
    rw [decide_int, decide_eq_false (p := (xs.length : Int) = 2) (by omega)]
    exact iteT (q H .refl)
  | @yes a x y ox oy h hx hy =>
  refine ⟨_, rfl, _, _, _, _, true, rfl, .ty _, (h.ty).x, isi_yes, true, rfl, iteF ?_⟩
  refine ⟨_, rfl, a, _, rfl, .inr h.sq, rfl, _, rfl, iteF ?_⟩
  refine ⟨_, rfl, a, _, rfl, h.sq, rfl, _, _, rfl, _, [], rfl, rfl, ?_⟩
  refine ⟨_, rfl, _, rfl, v, x, n, ts, ox, rfl, W, hok, by omega, hx.k, hT0, fun H1 k1 => ?_⟩
  cases c1 : waysO ts ox with
  | false =>
    have q0 := q _ k1
    rw [evenB_w c1] at q0
    exact ⟨_, rfl, iteT (iteT q0)⟩
  | true =>
  refine ⟨_, rfl, iteF ?_⟩
  obtain ⟨ws, rfl, hw⟩ := waysO_inv c1
  cases hx with
  | @yes u _ hu hxx =>
  have hu1 := hu.ke k1
  rw [evenB_in c1] at q
  refine ⟨_, rfl, _, rfl, u, _, rfl, .inr hu1.sq, hr0.flat, flat_ints ws, _, rfl, ?_⟩
  cases c2 : inV root (ws.map V.int) with
  | true =>
    rw [c2] at q
    exact iteT (q _ k1)
  | false =>
  rw [c2, Bool.not_false, Bool.true_and] at q
  refine iteF ?_
  obtain ⟨tw, wu, rs, rfl, htw, hwu, hTs⟩ := id W
  refine ⟨_, rfl, _, rfl, tw, _, 1, _, rfl, rfl, sqT_of (k1.tup htw), atI_nat (j := 1) rfl, ?_⟩
  have hwu1 := k1.tup hwu
  have hrl := hTs.length
  have hwl := hw.1
  refine ⟨u, wu, _, _, rfl, .inr ⟨hu1.sq (K := K), sqT_of hwu1, fun D hD => ?_⟩⟩
  have hfl : (heldF root ws ts).length = ts.length := by unfold heldF; rw [List.length_zip, List.length_map]; omega
  refine lc_it (walk_zipT (K := K) (a := u) (b := wu) (xs := ws.map V.int) (ys := rs) (n := ts.length) (by rw [List.length_map]; omega)) (fun i G => Ke H1 G ∧ ∃ hs, G D = some (.lst hs) ∧ HeldN D G hs ((heldF root ws ts).take i)) ⟨Ke.new hD, [], upd_same, .nil⟩ (fun i G _ hG => ⟨(hu1.ke hG.1).sq, sqT_of (hG.1.tup hwu1)⟩) (fun i x G G' hi hG hy => ?_) (fun G hG => ?_)
  · obtain ⟨kG, hs, gD, hH⟩ := hG
    obtain ⟨T1, z1, y1, rfl, nT, rfl, e1, e2⟩ := hy
    obtain ⟨w1, hw1, rfl⟩ := int_at e1
    obtain ⟨⟨ta, tb'⟩, qt, hti, rfl, hqt⟩ := hTs.get e2
    have kT := Ke.new (S := fun _ => False) (o := .tup [.int w1, .ref qt]) nT
    have kGT := kG.trans kT
    have gT : (upd G T1 (.tup [.int w1, .ref qt])) T1 = some (.tup [.int w1, .ref qt]) := upd_same
    have gD1 := Ke.lst kT gD
    have hH1 := hH.ke kT
    generalize upd G T1 _ = G2 at *
    have hqt2 := Ke.tup (k1.trans kGT) hqt
    refine ⟨T1, _, rfl, sqT_of gT, rfl, _, _, rfl, _, [], rfl, rfl, rfl, yes_ite ?_⟩
    refine ⟨_, rfl, _, rfl, qt, rfl, ⟨_, sqT_of hqt2⟩, fun D2 nD2 => ?_⟩
    refine lc_tup (K := K) (a := qt) (xs := [.int ta, .int tb']) (fun j G => Ke G2 G ∧ G D2 = some (.lst ((([ta, tb'].take j).filter fun e => !decide (V.int e = root)).map V.int))) ⟨Ke.new nD2, upd_same⟩ (fun j G _ hG => sqT_of (Ke.tup hG.1 hqt2)) (fun j x G hx' hG => ?_) (fun G hG => ?_)
    · obtain ⟨k3, g3⟩ := hG
      obtain ⟨e0, he0, rfl⟩ : ∃ e0, [ta, tb'][j]? = some e0 ∧ x = .int e0 := by
        match j, hx' with
        | 0, h => cases h; exact ⟨ta, rfl, rfl⟩
        | 1, h => cases h; exact ⟨tb', rfl, rfl⟩
        | j + 2, h => cases h
      have hsc : scal (.int e0) root = true := by rcases hr0 with rfl | ⟨i, rfl⟩ <;> rfl
      refine ⟨rfl, _, rfl, _, rfl, hsc, _, rfl, ?_⟩
      by_cases ce : V.int e0 = root
      · rw [decide_eq_true ce]
        refine iteF ⟨k3, ?_⟩
        rw [take_next he0, List.filter_append, List.filter_cons, if_neg (by rw [decide_eq_true ce]; decide), List.filter_nil, List.append_nil]
        exact g3
      · rw [decide_eq_false ce]
        refine iteT ⟨_, rfl, _, g3, by rw [List.length_map]; have := List.length_filter_le (fun e => !decide (V.int e = root)) ([ta, tb'].take j); have := List.length_take_le' j [ta, tb']; have : ([ta, tb'] : List Int).length = 2 := rfl; omega, k3.over nD2, ?_⟩
        rw [take_next he0, List.filter_append, List.filter_cons, if_pos (by rw [decide_eq_false ce]; decide), List.filter_nil, List.map_append]
        exact upd_same
    · obtain ⟨k3, g3⟩ := hG
      have eg : ([ta, tb'].filter fun e => !decide (V.int e = root)) = grp root (ta, tb') := rfl
      rw [show ([V.int ta, V.int tb'] : List V).length = [ta, tb'].length from rfl, List.take_length, eg] at g3
      refine ⟨by show 2 ≤ sizeLine; decide, fun t2 nt2 => ?_⟩
      have k4 := k3.trans (Ke.new (o := .tup [.int w1, .ref D2]) nt2)
      have gD4 := Ke.lst k4 gD1
      have hil := hH1.length
      rw [List.length_take] at hil
      refine ⟨hs, gD4, by omega, (kGT.trans k4).over hD, hs ++ [.ref t2], upd_same, ?_⟩
      have hhi : (heldF root ws ts)[i]? = some (w1, grp root (ta, tb')) := by
        unfold heldF
        rw [List.getElem?_zip_eq_some]
        exact ⟨hw1, by rw [List.getElem?_map, hti]; rfl⟩
      rw [take_next hhi]
      have nD2D : D2 ≠ D := fun z => by rw [z, gD1] at nD2; cases nD2
      have gg : (upd G t2 (.tup [.int w1, .ref D2])) D2 = some (.lst ((grp root (ta, tb')).map V.int)) := lst_new nt2 g3
      exact ((hH1.ke k4).put gD4).snoc (by rw [upd_ne (ne_of upd_same gD4 fun z => nomatch z)]; exact upd_same) (by rw [upd_ne nD2D]; exact gg) nD2D
  obtain ⟨kG, hs, gD, hH⟩ := hG
  rw [List.take_of_length_le (by omega)] at hH
  have kA := k1.trans kG
  have hil := hH.length
  refine ⟨_, rfl, _, rfl, _, rfl, .ref tw, n, ts, D, hs, heldF root ws ts, y, oy, rfl, W.ke kA, hn0, hn1, gD, hH.p, fun e he => ?_, hy.ke kA, by omega, fun e he => ?_, hT0.kx kA, fun H5 k5 => q _ (kA.trans k5)⟩
  · exact hw.bd hok _ (List.of_mem_zip (a := e.1) (b := e.2) he).1
  · obtain ⟨t0, _, e0⟩ := List.mem_map.mp (List.of_mem_zip (a := e.1) (b := e.2) he).2
    rw [← e0]
    unfold grp
    have := List.length_filter_le (fun e => !decide (V.int e = root)) [t0.1, t0.2]
    have : ([t0.1, t0.2] : List Int).length = 2 := rfl
    omega
theorem posM : (0 : Int) < 2305843009213693951 := by decide
theorem modM (x : Int) : 0 ≤ x % 2305843009213693951 ∧ x % 2305843009213693951 < 2305843009213693951 := ⟨Int.emod_nonneg _ (by decide), Int.emod_lt_of_pos _ (by decide)⟩
theorem ok__law_mixed {P : Program} {w : World} {K : PySem.W.Frag} {mg : Str → Option Value} {base : Heap} {tb : List Addr} {f : Addr} {fd : FuncData} (T : Blt mg) (D__law_mixed : DefAt K mg "_law_mixed" s_law_mixed ["_law_cell", "_law_k"] f fd) :
    FnOk P w K mg base CX0 1 f fd ["_law_cell", "_law_k"] (sp__law_mixed K tb) := by
  refine D__law_mixed.ok sc__law_mixed (fun vs H Q E h => by
    obtain ⟨c, k, rfl, hk0, hk1, q⟩ := h
    all_goals rfl) fun A outer s H vs Q E hr h => ?_
  obtain ⟨c, k, rfl, hk0, hk1, q⟩ := h
  refine ⟨_, pss_cons (ps_set (i := 2) sc__law_mixed.nd rfl (.inl rfl) (pe_op op_mod (pe_op op_add (pe_op op_add (pv 0) (pe_op op_mul (pe_op op_mul (pv 1) (pv 1)) (pe_int))) (pe_int)) (pe_int)))
     (pss_cons (ps_set (i := 2) sc__law_mixed.nd rfl (.inl rfl) (pe_op op_mod (pe_op op_mul (pv 2) (pv 2)) (pe_int)))
     (pss_cons (ps_set (i := 2) sc__law_mixed.nd rfl (.inl rfl) (pe_op op_mod (pe_op op_mul (pe_op op_add (pe_op op_add (pv 2) (pe_op op_mul (pv 1) (pe_int))) (pe_int)) (pe_int)) (pe_int)))
     (pss_one (ps_ret (pe_op op_fdiv (pe_op op_mod (pe_op op_mul (pv 2) (pv 2)) (pe_int)) (pe_int)))))), ?_⟩
  refine ⟨_, rfl, _, rfl, _, rfl, _, _, rfl, rfl, .inl ⟨by omega, by omega⟩, _, _, rfl, rfl, .inr ⟨by decide, by decide⟩, _, _, rfl, rfl, _, _, rfl, rfl, _, _, rfl, rfl, posM, ?_⟩
  obtain ⟨x0, x1⟩ := modM (c + k * k * 40503 + 12345)
  refine ⟨_, rfl, _, rfl, _, _, rfl, rfl, .inl ⟨by omega, by omega⟩, _, _, rfl, rfl, posM, ?_⟩
  obtain ⟨y0, y1⟩ := modM ((c + k * k * 40503 + 12345) % 2305843009213693951 * ((c + k * k * 40503 + 12345) % 2305843009213693951))
  generalize (c + k * k * 40503 + 12345) % 2305843009213693951 * ((c + k * k * 40503 + 12345) % 2305843009213693951) = y at *
  refine ⟨_, rfl, _, rfl, _, _, rfl, rfl, .inl ⟨by omega, by omega⟩, _, _, rfl, rfl, _, _, rfl, rfl, _, _, rfl, rfl, .inl ⟨by omega, by omega⟩, _, _, rfl, rfl, posM, ?_⟩
  obtain ⟨z0, z1⟩ := modM ((y % 2305843009213693951 + k * 7919 + 1) * 48271)
  refine ⟨_, rfl, _, rfl, _, _, rfl, rfl, .inl ⟨by omega, by omega⟩, _, _, rfl, rfl, posM, _, _, rfl, rfl, ⟨by decide, by decide⟩, ?_⟩
  exact q _ (Int.ediv_nonneg (Int.emod_nonneg _ (by decide)) (by decide))
theorem own_list (ns : List Int) : ∃ own : List Int, cutV (ns.map V.int) none (some 60) ++ (List.replicate (Int.toNat (if decide (V.int ((ns.map V.int).length : Int) = V.int 0) = true then 1 else 0)) [V.int 0]).flatten = own.map V.int ∧ 0 < own.length ∧ own.length ≤ 60 := by
  have e : cutV (ns.map V.int) none (some 60) = (ns.take 60).map V.int := by
    rw [show (some (60 : Int)) = some ((60 : Nat) : Int) from rfl, cut_to, List.map_take]
  rw [e]
  cases ns with
  | nil => exact ⟨[0], rfl, by decide, by decide⟩
  | cons x r =>
    have d : decide (V.int (((x :: r).map V.int).length : Int) = V.int 0) = false := decide_eq_false fun z => by
      have z := V.int.inj z
      rw [List.length_map, List.length_cons] at z
      omega
    rw [d]
    refine ⟨(x :: r).take 60, by simp, by simp, by rw [List.length_take]; omega⟩
theorem p1000 : (0 : Int) < 1000 := by decide
theorem ok__law_deck {P : Program} {w : World} {K : PySem.W.Frag} {mg : Str → Option Value} {base : Heap} {tb : List Addr} {f : Addr} {fd : FuncData} {f__law_mixed : Addr} {fd__law_mixed : FuncData} (T : Blt mg) (D__law_deck : DefAt K mg "_law_deck" s_law_deck ["_law_script", "_law_many"] f fd) (D__law_mixed : DefAt K mg "_law_mixed" s_law_mixed ["_law_cell", "_law_k"] f__law_mixed fd__law_mixed) (G__law_mixed : FnOk P w K mg base CX0 1 f__law_mixed fd__law_mixed ["_law_cell", "_law_k"] (sp__law_mixed K tb)) :
    FnOk P w K mg base CX0 2 f fd ["_law_script", "_law_many"] (sp__law_deck K tb) := by
  refine D__law_deck.ok sc__law_deck (fun vs H Q E h => by
    obtain ⟨a, ns, n, rfl, hS, hlen, hn0, hn1, q⟩ := h
    all_goals rfl) fun A outer s H vs Q E hr h => ?_
  obtain ⟨a, ns, n, rfl, hS, hlen, hn0, hn1, q⟩ := h
  refine ⟨_, pss_cons (ps_set (i := 2) sc__law_deck.nd rfl (.inl rfl) (pe_op op_cat (pe_callTy (listK (K := K)) (by rfl) T.b_list (by decide +kernel) (pa_cons (pe_slice (sl_listK (K := K)) (pv 0) po_none (po_some (pe_int))) pa_nil)) (pe_op op_rep (pe_lst (pa_cons (pe_int) pa_nil)) (pe_callTy call_int1 (by rfl) T.b_int (by decide +kernel) (pa_cons (pe_cmpR op_eq (pe_callB (lenK (K := K)) (by rfl) T.b_len PySem.boot_len (pa_cons (pv 0) pa_nil)) (pe_int) (nomark _)) pa_nil)))))
     (pss_cons (ps_setLc (i := 4) (own := [("_law_cell", 3)]) rfl sc__law_deck.nd rfl rfl (sw_true rfl rfl rfl (by decide +kernel)) (pi_list (pv 2)) (blkOk_by (own := [("_law_cell", 3)]) (N := nm__law_deck) (sc := defScope s_law_deck) (by decide +kernel)) (fun _ _ _ _ _ => pg_name (i := 3) sc__law_deck.nd rfl (.inl rfl)) (fun _ _ _ _ _ => pts_nil) (fun _ _ _ _ _ => pe_op op_mul (pv 3) (pe_callTy call_int1 (by rfl) T.b_int (by decide +kernel) (pa_cons (pe_cmpR op_ge (pv 3) (pe_op op_pow (pe_int) (pe_int)) (nomark _)) pa_nil))))
     (pss_cons (ps_set (i := 5) sc__law_deck.nd rfl (.inl rfl) (pe_lst pa_nil))
     (pss_cons (ps_for PassesOwn.never rfl (pi_range1 (by rfl) T.b_range (pa_cons (pv 1) pa_nil)) (pg_name (i := 6) sc__law_deck.nd rfl (.inl rfl))
     (pss_cons (ps_set (i := 7) sc__law_deck.nd rfl (.inl rfl) (pe_op op_mod (pv 6) (pe_callB (lenK (K := K)) (by rfl) T.b_len PySem.boot_len (pa_cons (pv 2) pa_nil))))
     (pss_one (ps_if (pt_cmpR op_gt (pe_ix (ix_listK (K := K)) (pv 4) (pv 7) (fun _ _ => rfl)) (pe_int) (nomark _))
     (pss_cons (ps_expr (pe_bm PySem.F.plainAttrs_list PySem.F.slot_list_append PySem.F.type_list_append mt_append (pv 5) (pa_cons (pe_op op_mod (pe_ix (ix_listK (K := K)) (pv 4) (pv 7) (fun _ _ => rfl)) (pe_int)) pa_nil)))
     (pss_one (ps_asg (pe_op op_fdiv (pe_ix (ix_listK (K := K)) (pv 4) (pv 7) (fun _ _ => rfl)) (pe_int)) (pg_sub (pv 4) (pv 7) set_list))))
     (pss_one (ps_expr (pe_bm PySem.F.plainAttrs_list PySem.F.slot_list_append PySem.F.type_list_append mt_append (pv 5) (pa_cons (pe_op op_mod (pe_call G__law_mixed (hr.mono (by decide)) (by rfl) D__law_mixed.g D__law_mixed.F.kp D__law_mixed.b .nil pass0 (pa_cons (pe_ix (ix_listK (K := K)) (pv 2) (pv 7) (fun _ _ => rfl)) (pa_cons (pe_op op_add (pv 6) (pe_int)) pa_nil))) (pe_int)) pa_nil))))))))
     (pss_one (ps_ret (pe_listRev rfl (by rfl) T.b_list (by rfl) T.b_reversed (pv 5))))))), ?_⟩
  -- own
  refine ⟨_, rfl, 60, rfl, a, _, rfl, hS, fun c nc => ?_⟩
  refine ⟨c, _, rfl, .inl (sqL_of upd_same), fun l nl => ?_⟩
  have k1 : Ke H (upd (upd H c (.lst (cutV (ns.map V.int) none (some 60)))) l (.lst (cutV (ns.map V.int) none (some 60)))) := (Ke.new nc).trans (Ke.new nl)
  have hl1 : (upd (upd H c (.lst (cutV (ns.map V.int) none (some 60)))) l (.lst (cutV (ns.map V.int) none (some 60)))) l = some (.lst (cutV (ns.map V.int) none (some 60))) := upd_same
  generalize (upd (upd H c (.lst (cutV (ns.map V.int) none (some 60)))) l (.lst (cutV (ns.map V.int) none (some 60)))) = Ha at *
  have hla : (ns.map V.int).length = ns.length := List.length_map ..
  refine ⟨by decide, fun z nz => ?_⟩
  refine ⟨_, rfl, a, _, rfl, .inl ((k1.trans (Ke.new nz)).seqL hS (fun z => z)), rfl, .inr ⟨_, rfl, ?_⟩⟩
  refine ⟨z, _, _, rfl, rfl, upd_same, by split <;> decide, by split <;> decide, by split <;> decide, fun r nr => ?_⟩
  have k2 : Ke Ha (upd (upd Ha z (.lst [.int 0])) r (.lst (List.replicate (Int.toNat (if decide (V.int ((ns.map V.int).length : Int) = V.int 0) then 1 else 0)) [V.int 0]).flatten)) := (Ke.new nz).trans (Ke.new nr)
  have hcl : (cutV (ns.map V.int) none (some 60)).length ≤ 63 := Nat.le_trans (cutV_length _ _ _) (by omega)
  obtain ⟨own, eown, hown0, hown1⟩ := own_list ns
  refine ⟨l, r, _, _, rfl, rfl, k2.lst hl1, upd_same, ?_, fun o no => ?_⟩
  · rw [← List.length_append, eown, List.length_map]
    have := line_big
    omega
  rw [eown]
  have k3 := (k1.trans k2).trans (Ke.new (S := fun _ => False) (o := .lst (own.map V.int)) no)
  have ho : upd (upd (upd Ha z (.lst [.int 0])) r (.lst (List.replicate (Int.toNat (if decide (V.int ((ns.map V.int).length : Int) = V.int 0) = true then 1 else 0)) [V.int 0]).flatten)) o (.lst (own.map V.int)) o = some (.lst (own.map V.int)) := upd_same
  generalize upd (upd (upd Ha z (.lst [.int 0])) r (.lst (List.replicate (Int.toNat (if decide (V.int ((ns.map V.int).length : Int) = V.int 0) = true then 1 else 0)) [V.int 0]).flatten)) o (.lst (own.map V.int)) = Hb at *
  -- rest
  refine ⟨_, rfl, o, rfl, ⟨_, sqL_of ho⟩, fun D hD => ?_⟩
  refine lc_list (K := K) (a := o) (xs := own.map V.int) (fun i G => ∃ rs : List Int, rs.length = i ∧ G = upd Hb D (.lst (rs.map V.int))) ⟨[], rfl, rfl⟩ (fun i G _ hG => ?_) (fun i x G hx hG => ?_) (fun G hG => ?_)
  · obtain ⟨rs, _, rfl⟩ := hG
    exact sqL_of (by rw [upd_ne (ne_of_none ho hD)]; exact ho)
  · obtain ⟨rs, hrs, rfl⟩ := hG
    obtain ⟨v, hv, rfl⟩ : ∃ v, own[i]? = some v ∧ x = .int v := by
      rw [List.getElem?_map] at hx
      cases e : own[i]? with
      | none => rw [e] at hx; cases hx
      | some v => rw [e] at hx; exact ⟨v, rfl, (Option.some.inj hx).symm⟩
    have hi : i < own.length := (List.getElem?_eq_some_iff.mp hv).1
    refine ⟨rfl, yes_ite ?_⟩
    refine ⟨_, rfl, _, rfl, _, _, rfl, rfl, ⟨by decide, by decide, by decide⟩, _, _, rfl, rfl, .inr ⟨_, rfl, _, _, rfl, rfl, .inr ⟨by split <;> decide, by split <;> decide⟩, _, upd_same, ?_, ?_⟩⟩
    · rw [List.length_map]
      have := line_big
      omega
    · rw [upd_upd]
      exact ⟨rs ++ [_], by rw [List.length_append, hrs]; rfl, by rw [List.map_append]; rfl⟩
  · obtain ⟨rs, hrs, rfl⟩ := hG
    rw [List.length_map] at hrs
    -- the deck
    have k4 := k3.over (o := .lst (rs.map V.int)) (k3.dom _ hD)
    have ho4 : upd Hb D (.lst (rs.map V.int)) o = some (.lst (own.map V.int)) := by rw [upd_ne (ne_of_none ho hD)]; exact ho
    refine ⟨Nat.zero_le _, fun p np => ?_⟩
    obtain ⟨npD, np0⟩ := upd_none np
    have nHD := k3.dom _ hD
    have nHp := k3.dom _ np0
    refine ⟨_, rfl, n, rfl, by omega, by omega, ?_⟩
    refine for_range (n := n.toNat) (fun i σ G => ∃ (y6 y7 : Option V) (ds rs : List Int), σ = [some (.ref a), some (.int n), some (.ref o), none, some (.ref D), some (.ref p), y6, y7] ∧ Ke H G ∧ G o = some (.lst (own.map V.int)) ∧ G D = some (.lst (rs.map V.int)) ∧ rs.length = own.length ∧ G p = some (.lst (ds.map V.int)) ∧ ds.length = i ∧ Dig ds)
      ⟨none, none, [], rs, rfl, k4.over nHp, by rw [upd_ne (ne_of_none ho4 np)]; exact ho4, by rw [upd_ne npD.symm, upd_same], hrs, upd_same, rfl, fun _ z => nomatch z⟩ (fun i σ G hi hG => ?_) (fun σ G hG => ?_)
    · obtain ⟨y6, y7, ds, rs, rfl, kG, go, gD, hrs, gp, hds, hdig⟩ := hG
      have m0 := emod_bds (0 + (i : Int)) (n := own.length) (by omega)
      have hol : ((own.map V.int).length : Int) = own.length := by rw [List.length_map]
      refine ⟨_, rfl, _, rfl, o, _, rfl, .inl (sqL_of go), _, _, rfl, rfl, by rw [hol]; omega, ?_⟩
      rw [hol]
      obtain ⟨v, _, _, ev⟩ := at_int (xs := rs) m0.1 (by rw [hrs]; exact m0.2)
      obtain ⟨u, _, _, eu⟩ := at_int (xs := own) m0.1 m0.2
      have npo : o ≠ p := ne_of_none ho4 np
      refine ⟨_, rfl, _, rfl, D, _, _, _, rfl, rfl, sqL_of gD, ev, _, _, rfl, rfl, _, rfl, ite2 (fun hc => ?_) (fun hc => ?_)⟩
      · have hv : 0 < v := of_decide_eq_true hc
        have d0 := emod_bds v (n := 1000) (by decide)
        refine ⟨_, rfl, .inl ⟨rfl, _, sqL_of gp⟩, _, rfl, _, rfl, D, _, _, _, rfl, rfl, sqL_of gD, ev, _, _, rfl, rfl, p1000, p, _, _, rfl, rfl, gp, ?_, ?_⟩
        · rw [List.length_map]
          have := line_big
          omega
        · have gD2 : upd G p (.lst (ds.map V.int ++ [.int (v % 1000)])) D = some (.lst (rs.map V.int)) := by rw [upd_ne npD.symm]; exact gD
          refine ⟨_, rfl, _, rfl, D, _, _, _, rfl, rfl, sqL_of gD2, ev, _, _, rfl, rfl, ⟨by decide, by decide⟩, _, rfl, _, rfl, D, _, _, _, rfl, rfl, gD2, ix_in m0.1 (by rw [List.length_map, hrs]; exact m0.2), ?_⟩
          refine ⟨_, _, ds ++ [v % 1000], rs.set ((0 + (i : Int)) % own.length).toNat (v / 1000), rfl, (kG.over nHp).over nHD, ?_, ?_, by rw [List.length_set]; exact hrs, ?_, by rw [List.length_append, hds]; rfl, ?_⟩
          · rw [upd_ne (ne_of_none ho hD), upd_ne npo]
            exact go
          · rw [upd_same, List.map_set]
          · rw [upd_ne npD, upd_same, List.map_append]
            rfl
          · intro d hd
            rcases List.mem_append.mp hd with hd | hd
            · exact hdig d hd
            · rw [List.mem_singleton.mp hd]
              exact d0
      · refine ⟨_, rfl, .inl ⟨rfl, _, sqL_of gp⟩, _, rfl, _, rfl, o, _, _, _, rfl, rfl, sqL_of go, eu, _, rfl, _, _, rfl, rfl, _, _, rfl, by omega, by omega, fun rr hr0 => ?_⟩
        have d0 := emod_bds rr (n := 1000) (by decide)
        refine ⟨_, _, rfl, rfl, p1000, p, _, _, rfl, rfl, gp, ?_, ?_⟩
        · rw [List.length_map]
          have := line_big
          omega
        · refine ⟨_, _, ds ++ [rr % 1000], rs, rfl, kG.over nHp, ?_, ?_, hrs, ?_, by rw [List.length_append, hds]; rfl, ?_⟩
          · rw [upd_ne npo]
            exact go
          · rw [upd_ne npD.symm]
            exact gD
          · rw [upd_same, List.map_append]
            rfl
          · intro d hd
            rcases List.mem_append.mp hd with hd | hd
            · exact hdig d hd
            · rw [List.mem_singleton.mp hd]
              exact d0
    · obtain ⟨y6, y7, ds, rs, rfl, kG, go, gD, hrs, gp, hds, hdig⟩ := hG
      refine ⟨_, rfl, p, _, rfl, sqL_of gp, fun e ne => ?_⟩
      exact q e _ (kG.dom _ ne) (kG.trans (Ke.new ne)) ⟨ds.reverse, by rw [upd_same, List.map_reverse], fun d hd => hdig d (List.mem_reverse.mp hd)⟩
theorem ok__law_next {P : Program} {w : World} {K : PySem.W.Frag} {mg : Str → Option Value} {base : Heap} {tb : List Addr} {f : Addr} {fd : FuncData} (T : Blt mg) (D__law_next : DefAt K mg "_law_next" s_law_next ["_law_deck_here"] f fd) :
    FnOk P w K mg base CX0 1 f fd ["_law_deck_here"] (sp__law_next K tb) := by
  refine D__law_next.ok sc__law_next (fun vs H Q E h => by
    obtain ⟨p, rfl, hd, q⟩ := h
    all_goals rfl) fun A outer s H vs Q E hr h => ?_
  obtain ⟨p, rfl, hd, q⟩ := h
  refine ⟨_, pss_cons (ps_if (pt_cmpR op_gt (pe_callB (lenK (K := K)) (by rfl) T.b_len PySem.boot_len (pa_cons (pv 0) pa_nil)) (pe_int) (nomark _))
     (pss_one (ps_ret (pe_bm0 PySem.F.plainAttrs_list PySem.F.slot_list_pop PySem.F.type_list_pop mt_pop (pv 0))))
     (pss_nil))
     (pss_one (ps_ret (pe_int))), ?_⟩
  obtain ⟨ds, hp, hg⟩ := id hd
  refine ⟨_, rfl, p, ds.map V.int, rfl, .inl (sqL_of hp), _, _, rfl, rfl, _, rfl, ite2 (fun e => ?_) (fun e => ?_)⟩
  · have hl : 0 < ds.length := by
      have h0 := of_decide_eq_true e
      rw [List.length_map] at h0
      omega
    have hlast : (ds.map V.int)[(ds.map V.int).length - 1]? = some (.int ds[ds.length - 1]) := by
      rw [List.length_map, List.getElem?_map, List.getElem?_eq_getElem (by omega)]
      rfl
    refine ⟨_, rfl, .inl ⟨rfl, _, sqL_of hp⟩, p, ds.map V.int, _, rfl, rfl, hp, hlast, ?_⟩
    have hm : ds[ds.length - 1] ∈ ds := List.getElem_mem _
    refine q _ _ (hg _ hm).1 (hg _ hm).2 ⟨Ke.put hp (fun _ z => nomatch z), ds.dropLast, ?_, fun d h => hg d (List.dropLast_subset _ h)⟩
    rw [upd_same, List.map_dropLast]
  · exact q 0 H (by decide) (by decide) (.refl hd)
theorem tie_ne {a r n : Int} (hn : 2 ≤ n) (a0 : 0 ≤ a) (a1 : a < n) (r0 : 0 ≤ r) (r1 : r < n - 1) : (a + 1 + r) % n ≠ a := by
  intro h
  by_cases c : a + 1 + r < n
  · rw [Int.emod_eq_of_lt (by omega) c] at h
    omega
  · have e : (a + 1 + r) % n = a + 1 + r - n := by
      rw [← Int.sub_emod_right, Int.emod_eq_of_lt (by omega) (by omega)]
    omega
theorem ok__law_tie {P : Program} {w : World} {K : PySem.W.Frag} {mg : Str → Option Value} {base : Heap} {tb : List Addr} {f : Addr} {fd : FuncData} {f__law_next : Addr} {fd__law_next : FuncData} (T : Blt mg) (D__law_tie : DefAt K mg "_law_tie" s_law_tie ["_law_deck_here", "_law_points"] f fd) (D__law_next : DefAt K mg "_law_next" s_law_next ["_law_deck_here"] f__law_next fd__law_next) (G__law_next : FnOk P w K mg base CX0 1 f__law_next fd__law_next ["_law_deck_here"] (sp__law_next K tb)) :
    FnOk P w K mg base CX0 2 f fd ["_law_deck_here", "_law_points"] (sp__law_tie K tb) := by
  refine D__law_tie.ok sc__law_tie (fun vs H Q E h => by
    obtain ⟨p, n, rfl, hd, hn, q⟩ := h
    all_goals rfl) fun A outer s H vs Q E hr h => ?_
  obtain ⟨p, n, rfl, hd, hn, q⟩ := h
  refine ⟨_, pss_cons (ps_set (i := 2) sc__law_tie.nd rfl (.inl rfl) (pe_op op_mod (pe_call G__law_next (hr.mono (by decide)) (by rfl) D__law_next.g D__law_next.F.kp D__law_next.b .nil pass0 (pa_cons (pv 0) pa_nil)) (pv 1)))
     (pss_cons (ps_set (i := 3) sc__law_tie.nd rfl (.inl rfl) (pe_op op_mod (pe_op op_add (pe_op op_add (pv 2) (pe_int)) (pe_op op_mod (pe_call G__law_next (hr.mono (by decide)) (by rfl) D__law_next.g D__law_next.F.kp D__law_next.b .nil pass0 (pa_cons (pv 0) pa_nil)) (pe_op op_sub (pv 1) (pe_int)))) (pv 1)))
     (pss_one (ps_ret (pe_tup (pa_cons (pe_callB (call_min2 rfl) (by rfl) T.b_min (by decide +kernel) (pa_cons (pv 2) (pa_cons (pv 3) pa_nil))) (pa_cons (pe_callB (call_max2 rfl) (by rfl) T.b_max (by decide +kernel) (pa_cons (pv 2) (pa_cons (pv 3) pa_nil))) pa_nil)))))), ?_⟩
  refine ⟨_, rfl, p, rfl, hd, fun r1 H1 a0 a1 k1 => ?_⟩
  refine ⟨_, rfl, _, _, rfl, rfl, by omega, ?_⟩
  have b0 : 0 ≤ r1 % n := Int.emod_nonneg _ (by omega)
  have b1 : r1 % n < n := Int.emod_lt_of_pos _ (by omega)
  refine ⟨_, rfl, _, _, rfl, rfl, _, rfl, p, rfl, k1.d, fun r2 H2 c0 c1 k2 => ?_⟩
  refine ⟨_, rfl, _, _, rfl, rfl, _, _, rfl, rfl, by omega, _, _, rfl, rfl, _, rfl, _, _, rfl, rfl, by omega, ?_⟩
  have e0 : 0 ≤ r2 % (n - 1) := Int.emod_nonneg _ (by omega)
  have e1 : r2 % (n - 1) < n - 1 := Int.emod_lt_of_pos _ (by omega)
  have hne := tie_ne hn b0 b1 e0 e1
  have d0 : 0 ≤ (r1 % n + 1 + r2 % (n - 1)) % n := Int.emod_nonneg _ (by omega)
  have d1 : (r1 % n + 1 + r2 % (n - 1)) % n < n := Int.emod_lt_of_pos _ (by omega)
  refine ⟨_, rfl, _, rfl, _, _, rfl, _, rfl, _, rfl, _, _, rfl, by show 2 ≤ sizeLine; decide, fun t ht => ?_⟩
  exact q _ _ t H2 (by split <;> omega) (by split <;> split <;> omega) (by split <;> omega) (k1.trans k2) ht
theorem ok__law_any_web {P : Program} {w : World} {K : PySem.W.Frag} {mg : Str → Option Value} {base : Heap} {tb : List Addr} {f : Addr} {fd : FuncData} {f__law_next : Addr} {fd__law_next : FuncData} {f__law_tie : Addr} {fd__law_tie : FuncData} (T : Blt mg) (D__law_any_web : DefAt K mg "_law_any_web" s_law_any_web ["_law_deck_here", "_law_points", "_law_most"] f fd) (D__law_next : DefAt K mg "_law_next" s_law_next ["_law_deck_here"] f__law_next fd__law_next) (G__law_next : FnOk P w K mg base CX0 1 f__law_next fd__law_next ["_law_deck_here"] (sp__law_next K tb)) (D__law_tie : DefAt K mg "_law_tie" s_law_tie ["_law_deck_here", "_law_points"] f__law_tie fd__law_tie) (G__law_tie : FnOk P w K mg base CX0 2 f__law_tie fd__law_tie ["_law_deck_here", "_law_points"] (sp__law_tie K tb)) :
    FnOk P w K mg base CX0 3 f fd ["_law_deck_here", "_law_points", "_law_most"] (sp__law_any_web K tb) := by
  refine D__law_any_web.ok sc__law_any_web (fun vs H Q E h => by
    obtain ⟨p, n, m, rfl, hd, hn0, hn1, hm0, hm1, q⟩ := h
    all_goals rfl) fun A outer s H vs Q E hr h => ?_
  obtain ⟨p, n, m, rfl, hd, hn0, hn1, hm0, hm1, q⟩ := h
  refine ⟨_, pss_cons (ps_set (i := 3) sc__law_any_web.nd rfl (.inl rfl) (pe_lst pa_nil))
     (C8.pss_cut (ps_if (pt_cmpR op_gt (pv 1) (pe_int) (nomark _))
     (pss_one (ps_setLc (i := 3) (own := [("_law_k", 4)]) rfl sc__law_any_web.nd rfl rfl (sw_true rfl rfl rfl (by decide +kernel)) (pi_range1 (by rfl) T.b_range (pa_cons (pe_op op_mod (pe_call G__law_next (hr.mono (by decide)) (by rfl) D__law_next.g D__law_next.F.kp D__law_next.b .nil pass0 (pa_cons (pv 0) pa_nil)) (pe_op op_add (pv 2) (pe_int))) pa_nil)) (blkOk_by (own := [("_law_k", 4)]) (N := nm__law_any_web) (sc := defScope s_law_any_web) (by decide +kernel)) (fun _ _ _ _ _ => pg_name (i := 4) sc__law_any_web.nd rfl (.inl rfl)) (fun _ _ _ _ _ => pts_nil) (fun _ _ _ _ _ => pe_call G__law_tie (hr.mono (by decide)) (by rfl) D__law_tie.g D__law_tie.F.kp D__law_tie.b .nil pass0 (pa_cons (pv 0) (pa_cons (pv 1) pa_nil)))))
     (pss_nil))
     (pss_one (ps_ret (pe_tup (pa_cons (pv 1) (pa_cons (pe_callTy (tupleK (K := K)) (by rfl) T.b_tuple (by decide +kernel) (pa_cons (pv 3) pa_nil)) pa_nil)))))), ?_⟩
  refine ⟨Nat.zero_le _, fun l nl => ?_⟩
  have k0 : Dk p H (upd H l (.lst [])) := (Dk.refl hd).new nl
  refine ⟨fun σ G => ∃ (y : Option V) (l' : Addr) (ts : List (Int × Int)), σ = [some (.ref p), some (.int n), some (.int m), some (.ref l'), y] ∧ Dk p H G ∧ TL G l' ts ∧ (ts.length : Int) ≤ m ∧ TOk n ts ∧ (n = 1 → ts = []), ?_, fun σ G hG => ?_⟩
  · refine ⟨_, rfl, _, _, rfl, rfl, _, rfl, ite2 (fun e => ?_) (fun e => ?_)⟩
    · have hn : 2 ≤ n := by
        have := of_decide_eq_true e
        omega
      refine ⟨_, rfl, p, rfl, k0.d, fun r H1 r0 r1 k1 => ?_⟩
      have e1 := emod_bds r (n := m + 1) (by omega)
      refine ⟨_, rfl, _, _, rfl, rfl, _, _, rfl, rfl, by omega, _, rfl, by omega, by omega, fun D hD => ?_⟩
      have k01 := k0.trans k1
      have nD := k01.k.dom _ hD
      refine lc_range (lo := 0) (n := (r % (m + 1)).toNat) (fun i G => ∃ (rs : List V) (ts : List (Int × Int)), G D = some (.lst rs) ∧ Ties G rs ts ∧ ts.length = i ∧ TOk n ts ∧ Dk p H G) ⟨[], [], upd_same, .nil, rfl, TOk.nil, k01.over hd nD⟩ (fun i G hi hG => ?_) (fun G hG => ?_)
      · obtain ⟨rs, ts, gD, gT, hl, hok, kG⟩ := hG
        refine ⟨rfl, yes_ite ?_⟩
        refine ⟨_, rfl, _, rfl, p, n, rfl, kG.d, hn, fun a b t G1 a0 ab b1 kG1 nt => ?_⟩
        have nDp : D ≠ p := (hd.ne nD).symm
        have gD1 : G1 D = some (.lst rs) := kG1.lst gD nDp
        have gD2 : upd G1 t (.tup [.int a, .int b]) D = some (.lst rs) := by rw [upd_ne (ne_of_none gD1 nt)]; exact gD1
        refine ⟨rs, gD2, ?_, rs ++ [.ref t], ts ++ [(a, b)], upd_same, ((((gT.dk kG1 kG.d).new nt).append (Ties.one upd_same)).put gD2), by rw [List.length_append, hl]; rfl, hok.append (TOk.one a0 ab b1), ((kG.trans kG1).new nt).over hd nD⟩
        rw [gT.length, hl]
        have := line_big
        omega
      · obtain ⟨rs, ts, gD, gT, hl, hok, kG⟩ := hG
        exact ⟨_, D, ts, rfl, kG, ⟨rs, gD, gT⟩, by omega, hok, fun z => absurd z (by omega)⟩
    · exact ⟨_, l, [], rfl, k0, ⟨[], upd_same, .nil⟩, by simpa using hm0, TOk.nil, fun _ => rfl⟩
  · obtain ⟨y, l', ts, rfl, kG, ⟨rs, gl, gT⟩, hlen, hok, h1⟩ := hG
    refine ⟨_, rfl, _, rfl, l', _, rfl, .inl ⟨sqL_of gl, fun u nu => ?_⟩⟩
    refine ⟨by show 2 ≤ sizeLine; decide, fun t nt => ?_⟩
    refine q _ _ ts ((kG.new nu).new nt) ⟨t, u, rs, rfl, upd_same, ?_, (gT.new nu).new nt⟩ hlen hok h1
    rw [upd_ne (upd_none nt).1.symm, upd_same]
theorem ok__law_round {P : Program} {w : World} {K : PySem.W.Frag} {mg : Str → Option Value} {base : Heap} {tb : List Addr} {f : Addr} {fd : FuncData} (T : Blt mg) (D__law_round : DefAt K mg "_law_round" s_law_round ["_law_points"] f fd) :
    FnOk P w K mg base CX0 1 f fd ["_law_points"] (sp__law_round K tb) := by
  refine D__law_round.ok sc__law_round (fun vs H Q E h => by
    obtain ⟨n, rfl, hn0, hn1, q⟩ := h
    all_goals rfl) fun A outer s H vs Q E hr h => ?_
  obtain ⟨n, rfl, hn0, hn1, q⟩ := h
  refine ⟨_, pss_one (ps_ret (pe_op op_cat (pe_lc (own := [("_law_k", 1)]) rfl sc__law_round.nd (pi_range1 (by rfl) T.b_range (pa_cons (pe_op op_sub (pv 0) (pe_int)) pa_nil)) (blkOk_by (own := [("_law_k", 1)]) (N := nm__law_round) (sc := defScope s_law_round) (by decide +kernel)) (fun _ _ _ _ _ => pg_name (i := 1) sc__law_round.nd rfl (.inl rfl)) (fun _ _ _ _ _ => pts_nil) (fun _ _ _ _ _ => pe_tup (pa_cons (pv 1) (pa_cons (pe_op op_add (pv 1) (pe_int)) pa_nil)))) (pe_op op_rep (pe_lst (pa_cons (pe_tup (pa_cons (pe_int) (pa_cons (pe_op op_sub (pv 0) (pe_int)) pa_nil))) pa_nil)) (pe_callTy call_int1 (by rfl) T.b_int (by decide +kernel) (pa_cons (pe_cmpR op_gt (pv 0) (pe_int) (nomark _)) pa_nil))))), ?_⟩
  refine ⟨_, rfl, _, _, rfl, rfl, _, rfl, by omega, by omega, fun D hD => ?_⟩
  refine lc_range (lo := 0) (n := (n - 1).toNat) (fun i G => ∃ (rs : List V) (ts : List (Int × Int)), G D = some (.lst rs) ∧ Ties G rs ts ∧ ts.length = i ∧ TOk n ts ∧ Ke H G) ⟨[], [], upd_same, .nil, rfl, TOk.nil, Ke.new hD⟩ (fun i G hi hG => ?_) (fun G hG => ?_)
  · obtain ⟨rs, ts, gD, gT, hl, hok, kG⟩ := hG
    refine ⟨rfl, yes_ite ?_⟩
    refine ⟨_, rfl, _, rfl, _, _, rfl, rfl, by show 2 ≤ sizeLine; decide, fun t nt => ?_⟩
    have gD2 : upd G t (.tup [.int (0 + (i : Int)), .int (0 + (i : Int) + 1)]) D = some (.lst rs) := by rw [upd_ne (ne_of_none gD nt)]; exact gD
    refine ⟨rs, gD2, ?_, rs ++ [.ref t], ts ++ [(0 + (i : Int), 0 + (i : Int) + 1)], upd_same, (((gT.new nt).append (Ties.one upd_same)).put gD2), by rw [List.length_append, hl]; rfl, hok.append (TOk.one (by omega) (by omega) (by omega)), (kG.trans (Ke.new nt)).over hD⟩
    rw [gT.length, hl]
    have := line_big
    omega
  · obtain ⟨rs, ts, gD, gT, hl, hok, kG⟩ := hG
    refine ⟨_, rfl, _, _, rfl, rfl, by show 2 ≤ sizeLine; decide, fun t nt => ⟨by show 1 ≤ sizeLine; decide, fun z nz => ?_⟩⟩
    refine ⟨_, rfl, _, _, rfl, rfl, .inr ⟨_, rfl, ?_⟩⟩
    refine ⟨z, _, _, rfl, rfl, upd_same, by split <;> decide, by split <;> decide, by split <;> (show 1 * _ ≤ sizeLine; decide), fun r nr => ?_⟩
    have k1 : Ke G _ := ((Ke.new (S := fun _ => False) (o := .tup [.int 0, .int (n - 1)]) nt).trans (Ke.new (o := .lst [.ref t]) nz)).trans (Ke.new (o := .lst (List.replicate (Int.toNat (if decide (n > 2) = true then 1 else 0)) [V.ref t]).flatten) nr)
    have ht : upd (upd (upd G t (.tup [.int 0, .int (n - 1)])) z (.lst [.ref t])) r (.lst (List.replicate (Int.toNat (if decide (n > 2) = true then 1 else 0)) [V.ref t]).flatten) t = some (.tup [.int 0, .int (n - 1)]) := by
      rw [upd_ne, upd_ne (upd_none nz).1.symm, upd_same]
      exact fun e => by
        rw [← e, upd_ne (upd_none nz).1.symm, upd_same] at nr
        cases nr
    obtain ⟨us, hus, hul, huo⟩ : ∃ us : List (Int × Int), Ties (upd (upd (upd G t (.tup [.int 0, .int (n - 1)])) z (.lst [.ref t])) r (.lst (List.replicate (Int.toNat (if decide (n > 2) = true then 1 else 0)) [V.ref t]).flatten)) (List.replicate (Int.toNat (if decide (n > 2) = true then 1 else 0)) [V.ref t]).flatten us ∧ us.length ≤ 1 ∧ TOk n us := by
      by_cases h2 : n > 2
      · refine ⟨[(0, n - 1)], ?_, Nat.le_refl _, TOk.one (by decide) (by omega) (by omega)⟩
        have e : (List.replicate (Int.toNat (if decide (n > 2) = true then 1 else 0)) [V.ref t]).flatten = [V.ref t] := by rw [decide_eq_true h2]; rfl
        rw [e] at ht ⊢
        exact Ties.one ht
      · refine ⟨[], ?_, by decide, TOk.nil⟩
        have e : (List.replicate (Int.toNat (if decide (n > 2) = true then 1 else 0)) [V.ref t]).flatten = [] := by rw [decide_eq_false h2]; rfl
        rw [e]
        exact .nil
    have gT1 := gT.ke k1
    have gD1 := k1.lst gD
    have hr : upd (upd (upd G t (.tup [.int 0, .int (n - 1)])) z (.lst [.ref t])) r (.lst (List.replicate (Int.toNat (if decide (n > 2) = true then 1 else 0)) [V.ref t]).flatten) r = some (.lst (List.replicate (Int.toNat (if decide (n > 2) = true then 1 else 0)) [V.ref t]).flatten) := upd_same
    have kH := kG.trans k1
    generalize upd (upd (upd G t (.tup [.int 0, .int (n - 1)])) z (.lst [.ref t])) r (.lst (List.replicate (Int.toNat (if decide (n > 2) = true then 1 else 0)) [V.ref t]).flatten) = Hz at *
    refine ⟨D, r, _, _, rfl, rfl, gD1, hr, ?_, fun l nl => ?_⟩
    · rw [gT1.length, hus.length, hl]
      have := line_big
      omega
    · refine q _ l (ts ++ us) (kH.trans (Ke.new nl)) (kH.dom _ nl) ⟨_, upd_same, (gT1.append hus).new nl⟩ ?_ (hok.append huo)
      rw [List.length_append]
      omega
theorem ok__law_full {P : Program} {w : World} {K : PySem.W.Frag} {mg : Str → Option Value} {base : Heap} {tb : List Addr} {f : Addr} {fd : FuncData} (T : Blt mg) (D__law_full : DefAt K mg "_law_full" s_law_full ["_law_points"] f fd) :
    FnOk P w K mg base CX0 1 f fd ["_law_points"] (sp__law_full K tb) := by
  refine D__law_full.ok sc__law_full (fun vs H Q E h => by
    obtain ⟨n, rfl, hn0, hn1, q⟩ := h
    all_goals rfl) fun A outer s H vs Q E hr h => ?_
  obtain ⟨n, rfl, hn0, hn1, q⟩ := h
  refine ⟨_, pss_cons (ps_set (i := 1) sc__law_full.nd rfl (.inl rfl) (pe_lst pa_nil))
     (pss_cons (ps_for PassesOwn.never rfl (pi_range1 (by rfl) T.b_range (pa_cons (pv 0) pa_nil)) (pg_name (i := 2) sc__law_full.nd rfl (.inr rfl))
     (pss_one (ps_set (i := 1) sc__law_full.nd rfl (.inl rfl) (pe_op op_cat (pv 1) (pe_lc (own := [("_law_a", 3)]) rfl sc__law_full.nd (pi_range1 (by rfl) T.b_range (pa_cons (pv 2) pa_nil)) (blkOk_by (own := [("_law_a", 3)]) (N := nm__law_full) (sc := defScope s_law_full) (by decide +kernel)) (fun _ _ _ _ _ => pg_name (i := 3) sc__law_full.nd rfl (.inl rfl)) (fun _ _ _ _ _ => pts_nil) (fun _ _ _ _ _ => pe_tup (pa_cons (pv 3) (pa_cons (pv 2) pa_nil))))))))
     (pss_one (ps_ret (pv 1)))), ?_⟩
  refine ⟨Nat.zero_le _, fun l0 nl0 => ?_⟩
  refine ⟨_, rfl, n, rfl, by omega, by omega, ?_⟩
  refine for_range (n := n.toNat) (fun i σ G => ∃ (y2 y3 : Option V) (l : Addr) (ts : List (Int × Int)), σ = [some (.int n), some (.ref l), y2, y3] ∧ Ke H G ∧ H l = none ∧ TL G l ts ∧ ts.length ≤ 100 * i ∧ TOk n ts)
    ⟨none, none, l0, [], rfl, Ke.new nl0, nl0, ⟨[], upd_same, .nil⟩, Nat.zero_le _, TOk.nil⟩ (fun i σ G hi hG => ?_) (fun σ G hG => ?_)
  · obtain ⟨y2, y3, l, ts, rfl, kG, nl, ⟨rs, gl, gT⟩, hlen, hok⟩ := hG
    refine ⟨_, rfl, _, rfl, _, rfl, by omega, by omega, fun D hD => ?_⟩
    have nHD := kG.dom _ hD
    refine lc_range (lo := 0) (n := (0 + (i : Int)).toNat) (fun j G' => ∃ (qs : List V) (us : List (Int × Int)), G' D = some (.lst qs) ∧ Ties G' qs us ∧ us.length = j ∧ TOk n us ∧ Ke G G') ⟨[], [], upd_same, .nil, rfl, TOk.nil, Ke.new hD⟩ (fun j G' hj hG' => ?_) (fun G' hG' => ?_)
    · obtain ⟨qs, us, gD, gU, hul, huo, kU⟩ := hG'
      refine ⟨rfl, yes_ite ?_⟩
      refine ⟨_, rfl, _, rfl, by show 2 ≤ sizeLine; decide, fun t nt => ?_⟩
      have gD2 : upd G' t (.tup [.int (0 + (j : Int)), .int (0 + (i : Int))]) D = some (.lst qs) := by rw [upd_ne (ne_of_none gD nt)]; exact gD
      refine ⟨qs, gD2, ?_, qs ++ [.ref t], us ++ [(0 + (j : Int), 0 + (i : Int))], upd_same, (((gU.new nt).append (Ties.one upd_same)).put gD2), by rw [List.length_append, hul]; rfl, huo.append (TOk.one (by omega) (by omega) (by omega)), (kU.trans (Ke.new nt)).over hD⟩
      rw [gU.length, hul]
      have := line_big
      omega
    · obtain ⟨qs, us, gD, gU, hul, huo, kU⟩ := hG'
      refine ⟨l, D, _, _, rfl, rfl, kU.lst gl, gD, ?_, fun l2 nl2 => ?_⟩
      · rw [gT.length, gU.length, hul]
        have := line_big
        omega
      · refine ⟨_, _, l2, ts ++ us, rfl, (kG.trans kU).trans (Ke.new nl2), (kG.trans kU).dom _ nl2, ⟨_, upd_same, ((gT.ke kU).append gU).new nl2⟩, ?_, hok.append huo⟩
        rw [List.length_append]
        omega
  · obtain ⟨y2, y3, l, ts, rfl, kG, nl, ht, hlen, hok⟩ := hG
    exact ⟨_, rfl, q _ l ts kG nl ht (by omega) hok⟩
theorem ok__law_tree {P : Program} {w : World} {K : PySem.W.Frag} {mg : Str → Option Value} {base : Heap} {tb : List Addr} {f : Addr} {fd : FuncData} {f__law_next : Addr} {fd__law_next : FuncData} (T : Blt mg) (D__law_tree : DefAt K mg "_law_tree" s_law_tree ["_law_deck_here", "_law_points"] f fd) (D__law_next : DefAt K mg "_law_next" s_law_next ["_law_deck_here"] f__law_next fd__law_next) (G__law_next : FnOk P w K mg base CX0 1 f__law_next fd__law_next ["_law_deck_here"] (sp__law_next K tb)) :
    FnOk P w K mg base CX0 2 f fd ["_law_deck_here", "_law_points"] (sp__law_tree K tb) := by
  refine D__law_tree.ok sc__law_tree (fun vs H Q E h => by
    obtain ⟨p, n, rfl, hd, hn0, hn1, q⟩ := h
    all_goals rfl) fun A outer s H vs Q E hr h => ?_
  obtain ⟨p, n, rfl, hd, hn0, hn1, q⟩ := h
  refine ⟨_, pss_one (ps_ret (pe_lc (own := [("_law_k", 2)]) rfl sc__law_tree.nd (pi_range2 (by rfl) T.b_range (pa_cons (pe_int) (pa_cons (pv 1) pa_nil))) (blkOk_by (own := [("_law_k", 2)]) (N := nm__law_tree) (sc := defScope s_law_tree) (by decide +kernel)) (fun _ _ _ _ _ => pg_name (i := 2) sc__law_tree.nd rfl (.inl rfl)) (fun _ _ _ _ _ => pts_nil) (fun _ _ _ _ _ => pe_tup (pa_cons (pe_op op_mod (pe_call G__law_next (hr.mono (by decide)) (by rfl) D__law_next.g D__law_next.F.kp D__law_next.b .nil pass0 (pa_cons (pv 0) pa_nil)) (pv 2)) (pa_cons (pv 2) pa_nil))))), ?_⟩
  refine ⟨_, rfl, 1, n, rfl, ⟨by omega, by omega, by omega, by omega⟩, fun D hD => ?_⟩
  refine lc_range (lo := 1) (n := (n - 1).toNat) (fun i G => ∃ (rs : List V) (ts : List (Int × Int)), G D = some (.lst rs) ∧ Ties G rs ts ∧ ts.length = i ∧ TOk n ts ∧ Dk p H G) ⟨[], [], upd_same, .nil, rfl, TOk.nil, (Dk.refl hd).new hD⟩ (fun i G hi hG => ?_) (fun G hG => ?_)
  · obtain ⟨rs, ts, gD, gT, hl, hok, kG⟩ := hG
    refine ⟨rfl, yes_ite ?_⟩
    refine ⟨_, rfl, p, rfl, kG.d, fun r G1 r0 r1 kG1 => ?_⟩
    have e1 := emod_bds r (n := 1 + (i : Int)) (by omega)
    refine ⟨_, rfl, _, _, rfl, rfl, by omega, _, rfl, by show 2 ≤ sizeLine; decide, fun t nt => ?_⟩
    have nDp : D ≠ p := (hd.ne hD).symm
    have gD1 : G1 D = some (.lst rs) := kG1.lst gD nDp
    have gD2 : upd G1 t (.tup [.int (r % (1 + (i : Int))), .int (1 + (i : Int))]) D = some (.lst rs) := by rw [upd_ne (ne_of_none gD1 nt)]; exact gD1
    refine ⟨rs, gD2, ?_, rs ++ [.ref t], ts ++ [(r % (1 + (i : Int)), 1 + (i : Int))], upd_same, ((((gT.dk kG1 kG.d).new nt).append (Ties.one upd_same)).put gD2), by rw [List.length_append, hl]; rfl, hok.append (TOk.one e1.1 e1.2 (by omega)), ((kG.trans kG1).new nt).over hd hD⟩
    rw [gT.length, hl]
    have := line_big
    omega
  · obtain ⟨rs, ts, gD, gT, hl, hok, kG⟩ := hG
    exact q _ D ts kG hD ⟨rs, gD, gT⟩ (by omega) hok
theorem ok__law_web {P : Program} {w : World} {K : PySem.W.Frag} {mg : Str → Option Value} {base : Heap} {tb : List Addr} {f : Addr} {fd : FuncData} {f__law_next : Addr} {fd__law_next : FuncData} {f__law_any_web : Addr} {fd__law_any_web : FuncData} {f__law_round : Addr} {fd__law_round : FuncData} {f__law_full : Addr} {fd__law_full : FuncData} {f__law_tree : Addr} {fd__law_tree : FuncData} (T : Blt mg) (D__law_web : DefAt K mg "_law_web" s_law_web ["_law_deck_here", "_law_points", "_law_most"] f fd) (D__law_next : DefAt K mg "_law_next" s_law_next ["_law_deck_here"] f__law_next fd__law_next) (G__law_next : FnOk P w K mg base CX0 1 f__law_next fd__law_next ["_law_deck_here"] (sp__law_next K tb)) (D__law_any_web : DefAt K mg "_law_any_web" s_law_any_web ["_law_deck_here", "_law_points", "_law_most"] f__law_any_web fd__law_any_web) (G__law_any_web : FnOk P w K mg base CX0 3 f__law_any_web fd__law_any_web ["_law_deck_here", "_law_points", "_law_most"] (sp__law_any_web K tb)) (D__law_round : DefAt K mg "_law_round" s_law_round ["_law_points"] f__law_round fd__law_round) (G__law_round : FnOk P w K mg base CX0 1 f__law_round fd__law_round ["_law_points"] (sp__law_round K tb)) (D__law_full : DefAt K mg "_law_full" s_law_full ["_law_points"] f__law_full fd__law_full) (G__law_full : FnOk P w K mg base CX0 1 f__law_full fd__law_full ["_law_points"] (sp__law_full K tb)) (D__law_tree : DefAt K mg "_law_tree" s_law_tree ["_law_deck_here", "_law_points"] f__law_tree fd__law_tree) (G__law_tree : FnOk P w K mg base CX0 2 f__law_tree fd__law_tree ["_law_deck_here", "_law_points"] (sp__law_tree K tb)) :
    FnOk P w K mg base CX0 4 f fd ["_law_deck_here", "_law_points", "_law_most"] (sp__law_web K tb) := by
  refine D__law_web.ok sc__law_web (fun vs H Q E h => by
    obtain ⟨p, M, m, rfl, hd, hM0, hM1, hm0, hm1, q⟩ := h
    all_goals rfl) fun A outer s H vs Q E hr h => ?_
  obtain ⟨p, M, m, rfl, hd, hM0, hM1, hm0, hm1, q⟩ := h
  refine ⟨_, pss_cons (ps_set (i := 3) sc__law_web.nd rfl (.inl rfl) (pe_op op_mod (pe_call G__law_next (hr.mono (by decide)) (by rfl) D__law_next.g D__law_next.F.kp D__law_next.b .nil pass0 (pa_cons (pv 0) pa_nil)) (pe_int)))
     (pss_cons (ps_set (i := 4) sc__law_web.nd rfl (.inl rfl) (pe_op op_add (pe_int) (pe_op op_mod (pe_call G__law_next (hr.mono (by decide)) (by rfl) D__law_next.g D__law_next.F.kp D__law_next.b .nil pass0 (pa_cons (pv 0) pa_nil)) (pv 1))))
     (pss_cons (ps_if (PW.pt (pw_or (pt_cmpR op_lt (pv 3) (pe_int) (nomark _)) (pw_or1 (pt_cmpR op_eq (pv 4) (pe_int) (nomark _)))))
     (pss_one (ps_ret (pe_call G__law_any_web (hr.mono (by decide)) (by rfl) D__law_any_web.g D__law_any_web.F.kp D__law_any_web.b .nil pass0 (pa_cons (pv 0) (pa_cons (pv 4) (pa_cons (pv 2) pa_nil))))))
     (pss_nil))
     (pss_cons (ps_set (i := 5) sc__law_web.nd rfl (.inl rfl) (pe_callTy (listK (K := K)) (by rfl) T.b_list (by decide +kernel) (pa_cons (pe_ix (ix_tupK (K := K)) (pe_call G__law_any_web (hr.mono (by decide)) (by rfl) D__law_any_web.g D__law_any_web.F.kp D__law_any_web.b .nil pass0 (pa_cons (pv 0) (pa_cons (pv 4) (pa_cons (pe_int) pa_nil)))) (pe_int) (fun _ _ => rfl)) pa_nil)))
     (C8.pss_cut (ps_if (pt_cmpR op_eq (pv 3) (pe_int) (nomark _))
     (pss_one (ps_set (i := 6) sc__law_web.nd rfl (.inl rfl) (pe_op op_cat (pe_call G__law_round (hr.mono (by decide)) (by rfl) D__law_round.g D__law_round.F.kp D__law_round.b .nil pass0 (pa_cons (pv 4) pa_nil)) (pv 5))))
     (pss_one (ps_if (pt_cmpR op_eq (pv 3) (pe_int) (nomark _))
     (pss_one (ps_set (i := 6) sc__law_web.nd rfl (.inl rfl) (pe_op op_cat (pe_call G__law_full (hr.mono (by decide)) (by rfl) D__law_full.g D__law_full.F.kp D__law_full.b .nil pass0 (pa_cons (pe_callB (call_min2 rfl) (by rfl) T.b_min (by decide +kernel) (pa_cons (pv 4) (pa_cons (pe_int) pa_nil))) pa_nil)) (pv 5))))
     (pss_one (ps_if (pt_cmpR op_eq (pv 3) (pe_int) (nomark _))
     (pss_one (ps_set (i := 6) sc__law_web.nd rfl (.inl rfl) (pe_op op_cat (pe_call G__law_tree (hr.mono (by decide)) (by rfl) D__law_tree.g D__law_tree.F.kp D__law_tree.b .nil pass0 (pa_cons (pv 0) (pa_cons (pv 4) pa_nil))) (pv 5))))
     (pss_one (ps_if (pt_cmpR op_eq (pv 3) (pe_int) (nomark _))
     (pss_one (ps_set (i := 6) sc__law_web.nd rfl (.inl rfl) (pe_op op_cat (pe_op op_rep (pe_lst (pa_cons (pe_tup (pa_cons (pe_int) (pa_cons (pe_int) pa_nil))) pa_nil)) (pe_op op_mod (pe_call G__law_next (hr.mono (by decide)) (by rfl) D__law_next.g D__law_next.F.kp D__law_next.b .nil pass0 (pa_cons (pv 0) pa_nil)) (pe_op op_add (pv 2) (pe_int)))) (pv 5))))
     (pss_one (ps_set (i := 6) sc__law_web.nd rfl (.inl rfl) (pe_op op_cat (pe_op op_cat (pe_call G__law_tree (hr.mono (by decide)) (by rfl) D__law_tree.g D__law_tree.F.kp D__law_tree.b .nil pass0 (pa_cons (pv 0) (pa_cons (pv 4) pa_nil))) (pe_call G__law_tree (hr.mono (by decide)) (by rfl) D__law_tree.g D__law_tree.F.kp D__law_tree.b .nil pass0 (pa_cons (pv 0) (pa_cons (pv 4) pa_nil)))) (pe_slice (sl_listK (K := K)) (pv 5) po_none (po_some (pe_op op_mod (pe_call G__law_next (hr.mono (by decide)) (by rfl) D__law_next.g D__law_next.F.kp D__law_next.b .nil pass0 (pa_cons (pv 0) pa_nil)) (pe_int))))))))))))))
     (pss_cons (ps_set (i := 7) sc__law_web.nd rfl (.inl rfl) (pe_op op_mod (pe_call G__law_next (hr.mono (by decide)) (by rfl) D__law_next.g D__law_next.F.kp D__law_next.b .nil pass0 (pa_cons (pv 0) pa_nil)) (pe_callB (call_max2 rfl) (by rfl) T.b_max (by decide +kernel) (pa_cons (pe_int) (pa_cons (pe_callB (lenK (K := K)) (by rfl) T.b_len PySem.boot_len (pa_cons (pv 6) pa_nil)) pa_nil)))))
     (pss_one (ps_ret (pe_tup (pa_cons (pv 4) (pa_cons (pe_callTy (tupleK (K := K)) (by rfl) T.b_tuple (by decide +kernel) (pa_cons (pe_slice (sl_listK (K := K)) (pe_op op_cat (pe_slice (sl_listK (K := K)) (pv 6) (po_some (pv 7)) po_none) (pe_slice (sl_listK (K := K)) (pv 6) po_none (po_some (pv 7)))) po_none (po_some (pv 2))) pa_nil)) pa_nil)))))))))), ?_⟩
  refine ⟨_, rfl, p, rfl, hd, fun r1 H1 a0 a1 k1 => ⟨_, _, rfl, rfl, (by show (0 : Int) < 8; decide), ?_⟩⟩
  refine ⟨_, rfl, p, rfl, k1.d, fun r2 H2 b0 b1 k2 => ⟨_, rfl, _, _, rfl, rfl, by omega, _, _, rfl, rfl, ?_⟩⟩
  have e1 := emod_bds r1 (n := 8) (by decide)
  have e2 := emod_bds r2 (n := M) (by omega)
  have k12 := k1.trans k2
  have hs0 : 1 ≤ 1 + r2 % M := by omega
  have hs1 : 1 + r2 % M ≤ M := by omega
  -- the first way out
  have way1 : ∀ Q' : V → Hp → Prop, (∀ (H' : Hp) (v : V) (ts : List (Int × Int)), Dk p H2 H' → Web H' v (1 + r2 % M) ts → (ts.length : Int) ≤ m → TOk (1 + r2 % M) ts → Q' v H') → sp__law_any_web K tb [.ref p, .int (1 + r2 % M), .int m] H2 Q' E0 := fun Q' h' =>
    ⟨p, _, m, rfl, k12.d, hs0, by omega, hm0, hm1, fun H' v ts kk W l o _ => h' H' v ts kk W l o⟩
  have out1 : sp__law_any_web K tb [.ref p, .int (1 + r2 % M), .int m] H2 Q E0 := way1 Q fun H' v ts kk W l o => q H' v _ ts (k12.trans kk) W hs0 hs1 l o
  refine ⟨_, rfl, _, _, rfl, rfl, _, rfl, ite2 (fun c1 => ?_) (fun c1 => ?_)⟩
  · exact iteT ⟨_, rfl, _, rfl, _, rfl, out1⟩
  refine ⟨_, rfl, rfl, _, rfl, ite2 (fun c2 => ?_) (fun c2 => ?_)⟩
  · exact ⟨_, rfl, _, rfl, _, rfl, out1⟩
  have hs2 : 2 ≤ 1 + r2 % M := by
    have := ne_one c2
    omega
  clear way1 out1 c1 c2
  -- some ties more
  refine ⟨_, rfl, _, rfl, p, _, 4, rfl, k12.d, hs0, by omega, by decide, by decide, fun H3 v ms k3 W3 hml hmo _ => ?_⟩
  obtain ⟨t3, u3, rs3, rfl, ht3, hu3, hT3⟩ := W3
  refine ⟨t3, _, 1, _, rfl, rfl, sqT_of ht3, atI_nat (j := 1) rfl, u3, _, rfl, .inr (sqT_of hu3), fun lm nlm => ?_⟩
  have k4 : Dk p H (upd H3 lm (.lst rs3)) := (k12.trans k3).new nlm
  have hlm : (upd H3 lm (.lst rs3)) lm = some (.lst rs3) := upd_same
  have hTm : Ties (upd H3 lm (.lst rs3)) rs3 ms := hT3.new nlm
  have nHlm : H lm = none := (k12.trans k3).k.dom _ nlm
  have nlmp : lm ≠ p := (hd.ne nHlm).symm
  generalize upd H3 lm (.lst rs3) = H4 at *
  clear nlm hu3 ht3 hT3
  have LB := line_big
  have hrs3 : rs3.length = ms.length := hTm.length
  refine ⟨fun σ G => ∃ (l : Addr) (ts : List (Int × Int)), σ = [some (.ref p), some (.int M), some (.int m), some (.int (r1 % 8)), some (.int (1 + r2 % M)), some (.ref lm), some (.ref l), none] ∧ Dk p H G ∧ H l = none ∧ TL G l ts ∧ TOk (1 + r2 % M) ts ∧ ts.length ≤ 20000, ?_, fun σ G hG => ?_⟩
  · -- the ways
    refine ⟨_, rfl, rfl, _, rfl, ite2 (fun _ => ?_) (fun _ => ?_)⟩
    · refine ⟨_, rfl, _, rfl, hs2, by omega, fun H5 l1 us k5 nl1 hTL hul huo => ?_⟩
      obtain ⟨qs, hl1, hU⟩ := hTL
      have nHl1 := k4.k.dom _ nl1
      refine ⟨_, rfl, l1, lm, _, _, rfl, rfl, hl1, k5.lst hlm, by rw [hU.length, hrs3]; omega, fun o no => ?_⟩
      exact ⟨o, us ++ ms, rfl, (k4.ke k5).new no, (k4.ke k5).k.dom _ no, ⟨_, upd_same, (hU.append (hTm.ke k5)).new no⟩, huo.append hmo, by rw [List.length_append]; omega⟩
    refine ⟨_, rfl, rfl, _, rfl, ite2 (fun _ => ?_) (fun _ => ?_)⟩
    · refine ⟨_, rfl, _, _, rfl, _, rfl, by split <;> omega, by split <;> omega, fun H5 l1 us k5 nl1 hTL hul huo => ?_⟩
      obtain ⟨qs, hl1, hU⟩ := hTL
      refine ⟨_, rfl, l1, lm, _, _, rfl, rfl, hl1, k5.lst hlm, by rw [hU.length, hrs3]; omega, fun o no => ?_⟩
      exact ⟨o, us ++ ms, rfl, (k4.ke k5).new no, (k4.ke k5).k.dom _ no, ⟨_, upd_same, (hU.append (hTm.ke k5)).new no⟩, (huo.mono (by split <;> omega)).append hmo, by rw [List.length_append]; omega⟩
    refine ⟨_, rfl, rfl, _, rfl, ite2 (fun _ => ?_) (fun _ => ?_)⟩
    · refine ⟨_, rfl, _, rfl, p, _, rfl, k4.d, hs0, by omega, fun H5 l1 us k5 nl1 hTL hul huo => ?_⟩
      obtain ⟨qs, hl1, hU⟩ := hTL
      have hTm5 := hTm.dk k5 k4.d
      refine ⟨_, rfl, l1, lm, _, _, rfl, rfl, hl1, k5.lst hlm nlmp, by rw [hU.length, hrs3]; omega, fun o no => ?_⟩
      exact ⟨o, us ++ ms, rfl, (k4.trans k5).new no, (k4.trans k5).k.dom _ no, ⟨_, upd_same, (hU.append hTm5).new no⟩, huo.append hmo, by rw [List.length_append]; omega⟩
    refine ⟨_, rfl, rfl, _, rfl, ite2 (fun _ => ?_) (fun _ => ?_)⟩
    · refine ⟨by show 2 ≤ sizeLine; decide, fun t nt => ⟨by show 1 ≤ sizeLine; decide, fun z nz => ?_⟩⟩
      have k5 : Dk p H4 (upd (upd H4 t (.tup [.int 0, .int 1])) z (.lst [.ref t])) := ((Dk.refl k4.d).new nt).new nz
      have nHz : H z = none := (k4.k.trans (Ke.new nt)).dom _ nz
      have hz5 : (upd (upd H4 t (.tup [.int 0, .int 1])) z (.lst [.ref t])) z = some (.lst [.ref t]) := upd_same
      have ht5 : (upd (upd H4 t (.tup [.int 0, .int 1])) z (.lst [.ref t])) t = some (.tup [.int 0, .int 1]) := by rw [upd_ne (upd_none nz).1.symm, upd_same]
      generalize upd (upd H4 t (.tup [.int 0, .int 1])) z (.lst [.ref t]) = H5 at *
      refine ⟨_, rfl, p, rfl, k5.d, fun r5 H6 c0 c1 k6 => ?_⟩
      have e5 := emod_bds r5 (n := m + 1) (by omega)
      have k56 := k5.trans k6
      refine ⟨_, rfl, _, _, rfl, rfl, _, _, rfl, rfl, by omega, z, _, _, rfl, rfl, k6.lst hz5 (hd.ne nHz).symm, by omega, by omega, by show 1 * _ ≤ sizeLine; omega, fun y ny => ?_⟩
      have hT7 := (hTm.dk k56 k4.d).new (o := .lst (List.replicate (r5 % (m + 1)).toNat [V.ref t]).flatten) ny
      have hR := (Ties.rep (k6.tup k5.d ht5) (r5 % (m + 1)).toNat).new (o := .lst (List.replicate (r5 % (m + 1)).toNat [V.ref t]).flatten) ny
      have hlm7 : upd H6 y (.lst (List.replicate (r5 % (m + 1)).toNat [V.ref t]).flatten) lm = some (.lst rs3) := lst_new ny (k56.lst hlm nlmp)
      have hrl := hR.length
      rw [List.length_replicate] at hrl
      refine ⟨_, rfl, y, lm, _, _, rfl, rfl, upd_same, hlm7, by rw [hrl, hrs3]; omega, fun o no => ?_⟩
      exact ⟨o, List.replicate (r5 % (m + 1)).toNat (0, 1) ++ ms, rfl, ((k4.trans k56).new ny).new no, ((k4.trans k56).new (o := .lst (List.replicate (r5 % (m + 1)).toNat [V.ref t]).flatten) ny).k.dom _ no, ⟨_, upd_same, (hR.append hT7).new no⟩, (TOk.rep (by decide) (by decide) (by omega) _).append hmo, by rw [List.length_append, List.length_replicate]; omega⟩
    · refine ⟨_, rfl, _, rfl, p, _, rfl, k4.d, hs0, by omega, fun H5 l1 us k5 nl1 hTL hul huo => ?_⟩
      obtain ⟨qs, hl1, hU⟩ := hTL
      have nHl1 := k4.k.dom _ nl1
      refine ⟨_, rfl, _, rfl, p, _, rfl, k5.d, hs0, by omega, fun H6 l2 ws k6 nl2 hTL2 hwl hwo => ?_⟩
      obtain ⟨xs2, hl2, hW⟩ := hTL2
      refine ⟨l1, l2, _, _, rfl, rfl, k6.lst hl1 (hd.ne nHl1).symm, hl2, by rw [hU.length, hW.length]; omega, fun o no => ?_⟩
      have k7 := k6.new (o := .lst (qs ++ xs2)) no
      have hUW := ((hU.dk k6 k5.d).append hW).new (o := .lst (qs ++ xs2)) no
      have nHo := ((k4.trans k5).trans k6).k.dom _ no
      have ho : upd H6 o (.lst (qs ++ xs2)) o = some (.lst (qs ++ xs2)) := upd_same
      generalize upd H6 o (.lst (qs ++ xs2)) = H7 at *
      have k57 := k5.trans k7
      refine ⟨_, rfl, _, rfl, p, rfl, k57.d, fun r8 H8 c0 c1 k8 => ?_⟩
      have e8 := emod_bds r8 (n := 2) (by decide)
      refine ⟨_, _, rfl, rfl, (by show (0 : Int) < 2; decide), _, rfl, lm, _, rfl, sqL_of ((k57.trans k8).lst hlm nlmp), fun x nx => ?_⟩
      rw [cut_to' _ e8.1]
      have hTx := ((hTm.dk (k57.trans k8) k4.d).take (r8 % 2).toNat).new (o := .lst (rs3.take (r8 % 2).toNat)) nx
      have hUx := (hUW.dk k8 k57.d).new (o := .lst (rs3.take (r8 % 2).toNat)) nx
      have hox := lst_new (o := .lst (rs3.take (r8 % 2).toNat)) nx (k8.lst ho (hd.ne nHo).symm)
      have hlx := hTx.length
      rw [List.length_take, List.length_take] at hlx
      have hly := hUx.length
      rw [List.length_append, List.length_append] at hly
      refine ⟨o, x, _, _, rfl, rfl, hox, upd_same, by rw [List.length_append, List.length_take]; omega, fun y ny => ?_⟩
      have kz := (k4.trans (k57.trans k8)).new (o := .lst (rs3.take (r8 % 2).toNat)) nx
      refine ⟨y, (us ++ ws) ++ ms.take (r8 % 2).toNat, rfl, kz.new ny, kz.k.dom _ ny, ⟨_, upd_same, (hUx.append hTx).new ny⟩, (huo.append hwo).append (hmo.sub fun t ht => List.mem_of_mem_take ht), ?_⟩
      rw [List.length_append, List.length_append, List.length_take]
      omega
  · -- turned, and cut
    obtain ⟨l, ts, rfl, kG, nl, ⟨qs, hl, hT⟩, hok, hlen⟩ := hG
    have hql : qs.length = ts.length := hT.length
    refine ⟨_, rfl, p, rfl, kG.d, fun r9 H9 c0 c1 k9 => ?_⟩
    have nlp : l ≠ p := (hd.ne nl).symm
    have hl9 := k9.lst hl nlp
    have hT9 := hT.dk k9 kG.d
    refine ⟨_, rfl, l, _, rfl, .inl (sqL_of hl9), _, _, rfl, _, _, rfl, rfl, by split <;> omega, ?_⟩
    have e9 := emod_bds r9 (n := if (qs.length : Int) > 1 then (qs.length : Int) else 1) (by split <;> omega)
    obtain ⟨d, hdd⟩ : ∃ d : Nat, (d : Int) = r9 % (if (qs.length : Int) > 1 then (qs.length : Int) else 1) := ⟨_, Int.toNat_of_nonneg e9.1⟩
    have cf : ∀ xs : List V, cutV xs (some (r9 % (if (qs.length : Int) > 1 then (qs.length : Int) else 1))) none = xs.drop d := fun xs => by rw [← hdd, cut_from]
    have ct : ∀ xs : List V, cutV xs none (some (r9 % (if (qs.length : Int) > 1 then (qs.length : Int) else 1))) = xs.take d := fun xs => by rw [← hdd, cut_to]
    refine ⟨_, rfl, _, rfl, _, rfl, _, rfl, l, _, rfl, sqL_of hl9, fun x nx => ?_⟩
    rw [cf]
    have hlx := lst_new (o := .lst (qs.drop d)) nx hl9
    refine ⟨_, rfl, _, rfl, _, rfl, l, _, rfl, sqL_of hlx, fun y ny => ?_⟩
    rw [ct]
    have hxy := lst_new (o := .lst (qs.take d)) ny (show upd H9 x (.lst (qs.drop d)) x = _ from upd_same)
    refine ⟨x, y, _, _, rfl, rfl, hxy, upd_same, by rw [List.length_drop, List.length_take]; omega, fun z nz => ?_⟩
    refine ⟨_, rfl, _, rfl, z, _, rfl, sqL_of upd_same, fun w nw => ?_⟩
    rw [cut_to' _ hm0]
    refine ⟨w, _, rfl, .inl ⟨sqL_of upd_same, fun u nu => ?_⟩⟩
    refine ⟨by show 2 ≤ sizeLine; decide, fun t nt => ?_⟩
    refine q _ _ _ _ (((((((kG.trans k9).new nx).new ny).new nz).new nw).new nu).new nt) ⟨t, u, _, rfl, upd_same, ?_, ((((((((hT9.drop d).append (hT9.take d)).take m.toNat).new nx).new ny).new nz).new nw).new nu).new nt⟩ hs0 hs1 ?_ (hok.sub fun t ht => ?_)
    · rw [upd_ne (upd_none nt).1.symm, upd_same]
    · rw [List.length_take]
      omega
    · rcases List.mem_append.mp (List.mem_of_mem_take ht) with ht | ht
      · exact List.mem_of_mem_drop ht
      · exact List.mem_of_mem_take ht
theorem ok__law_is_int {P : Program} {w : World} {K : PySem.W.Frag} {mg : Str → Option Value} {base : Heap} {tb : List Addr} {f : Addr} {fd : FuncData} (T : Blt mg) (D__law_is_int : DefAt K mg "_law_is_int" s_law_is_int ["_law_thing", "_law_least", "_law_most"] f fd) :
    FnOk P w K mg base CX0 1 f fd ["_law_thing", "_law_least", "_law_most"] (sp__law_is_int K tb) := by
  refine D__law_is_int.ok sc__law_is_int (fun vs H Q E h => by
    obtain ⟨v, lo, hi, n, rfl, hv, q⟩ := h
    all_goals rfl) fun A outer s H vs Q E hr h => ?_
  obtain ⟨v, lo, hi, n, rfl, hv, q⟩ := h
  refine ⟨_, pss_one (ps_ret (pe_and (pe_callB (isiK (K := K)) (by rfl) T.b_isinstance (by decide +kernel) (pa_cons (pv 0) (pa_cons (pe_bltn (v := .ty "int") (u := .type "int") (by rfl) T.b_int (by decide +kernel) rfl) pa_nil))) (pe_and (pe_not (pe_callB (isiK (K := K)) (by rfl) T.b_isinstance (by decide +kernel) (pa_cons (pv 0) (pa_cons (pe_bltn (v := .ty "bool") (u := .type "bool") (by rfl) T.b_bool (by decide +kernel) rfl) pa_nil)))) (pe_one (pe_chain op_le op_le (pv 1) (pv 0) (pv 2)))))), ?_⟩
  refine ⟨_, rfl, v, _, _, _, _, rfl, .ty _, hv.x, hv.isi (.inl rfl), _, rfl, ?_⟩
  cases hv with
  | int i =>
    refine iteT ⟨_, rfl, _, _, _, _, false, rfl, .ty _, (TyF.int i).x, (TyF.int (H := H) i).isi (.inr (.inl rfl)), false, rfl, true, rfl, iteT ?_⟩
    refine ⟨_, rfl, _, rfl, _, _, rfl, rfl, _, rfl, iteB (fun e => ⟨_, rfl, _, _, rfl, rfl, ?_⟩) (fun e => ?_)⟩
    · have z : isNum (.int i) lo hi = decide (i ≤ hi) := by show (decide (lo ≤ i) && decide (i ≤ hi)) = _; rw [e, Bool.true_and]
      rw [z] at q
      exact q
    · have z : isNum (.int i) lo hi = false := by show (decide (lo ≤ i) && decide (i ≤ hi)) = _; rw [e, Bool.false_and]
      rw [z] at q
      exact q
  | bl b => exact iteT ⟨_, rfl, _, _, _, _, true, rfl, .ty _, (TyF.bl b).x, (TyF.bl (H := H) b).isi (.inr (.inl rfl)), true, rfl, false, rfl, iteF q⟩
  | non => exact iteF q
  | str x => exact iteF q
  | lst h => exact iteF q
  | tup h => exact iteF q
  | dic h => exact iteF q
  | tf h => exact iteF q
theorem ok__law_is_true {P : Program} {w : World} {K : PySem.W.Frag} {mg : Str → Option Value} {base : Heap} {tb : List Addr} {f : Addr} {fd : FuncData} (T : Blt mg) (D__law_is_true : DefAt K mg "_law_is_true" s_law_is_true ["_law_found", "_law_due"] f fd) :
    FnOk P w K mg base CX0 1 f fd ["_law_found", "_law_due"] (sp__law_is_true K tb) := by
  refine D__law_is_true.ok sc__law_is_true (fun vs H Q E h => by
    obtain ⟨a, b, rfl, q⟩ := h
    all_goals rfl) fun A outer s H vs Q E hr h => ?_
  obtain ⟨a, b, rfl, q⟩ := h
  refine ⟨_, pss_cons (ps_if (pt_val (pv 1))
     (pss_one (ps_ret (pe_cmpR op_isBl (pv 0) (pe_bl) (nomark _))))
     (pss_nil))
     (pss_one (ps_ret (pe_cmpR op_isBl (pv 0) (pe_bl) (nomark _)))), ?_⟩
  cases b with
  | true => exact ⟨_, rfl, true, rfl, iteT ⟨_, rfl, a, true, rfl, rfl, q⟩⟩
  | false => exact ⟨_, rfl, false, rfl, iteF ⟨_, rfl, a, false, rfl, rfl, q⟩⟩
theorem ok__law_odd_things {P : Program} {w : World} {K : PySem.W.Frag} {mg : Str → Option Value} {base : Heap} {tb : List Addr} {f : Addr} {fd : FuncData} (T : Blt mg) (D__law_odd_things : DefAt K mg "_law_odd_things" s_law_odd_things [] f fd) :
    FnOk P w K mg base CX0 1 f fd [] (sp__law_odd_things K tb) := by
  refine D__law_odd_things.ok sc__law_odd_things (fun vs H Q E h => by
    obtain ⟨rfl, q⟩ := h
    all_goals rfl) fun A outer s H vs Q E hr h => ?_
  obtain ⟨rfl, q⟩ := h
  refine ⟨_, pss_cons (ps_set (i := 0) sc__law_odd_things.nd rfl (.inl rfl) (pe_lst (pa_cons (pe_non) (pa_cons (pe_bl) (pa_cons (pe_bl) (pa_cons (pe_int) (pa_cons (pe_int) (pa_cons (pe_un un_neg (pe_int)) (pa_cons (pe_int) (pa_cons (pe_str) (pa_cons (pe_str) (pa_cons (pe_str) (pa_cons (pe_tupF pa_nil) (pa_cons (pe_lst pa_nil) (pa_cons (pe_dnewK) (pa_cons (pe_tupF (pa_cons (pe_tupF pa_nil) pa_nil)) (pa_cons (pe_lst (pa_cons (pe_tupF pa_nil) pa_nil)) (pa_cons (pe_tupF (pa_cons (pe_tupF pa_nil) (pa_cons (pe_tupF pa_nil) pa_nil))) (pa_cons (pe_tupF (pa_cons (pe_non) pa_nil)) (pa_cons (pe_tupF (pa_cons (pe_int) pa_nil)) (pa_cons (pe_lst (pa_cons (pe_int) pa_nil)) pa_nil)))))))))))))))))))))
     (pss_one (ps_ret (pe_op op_cat (pv 0) (pe_lst (pa_cons (pe_disp (pps_cons (pe_int) (pe_int) pps_nil) (by rfl) (by rfl) (fun z => by cases z) (by decide)) (pa_cons (pe_disp (pps_cons (pe_str) (pe_tupF pa_nil) pps_nil) (by rfl) (by rfl) (fun z => by cases z) (by decide)) (pa_cons (pe_tupF (pa_cons (pe_int) (pa_cons (pe_int) pa_nil))) (pa_cons (pe_tupF (pa_cons (pe_bl) pa_nil)) (pa_cons (pe_tupF (pa_cons (pe_str) pa_nil)) (pa_cons (pe_tupF (pa_cons (pe_tupF (pa_cons (pe_int) pa_nil)) pa_nil)) (pa_cons (pe_tupF (pa_cons (pe_lst pa_nil) pa_nil)) (pa_cons (pe_tupF (pa_cons (pe_int) (pa_cons (pe_int) (pa_cons (pe_int) pa_nil)))) (pa_cons (pe_lst (pa_cons (pe_int) (pa_cons (pe_int) pa_nil))) (pa_cons (pe_op op_pow (pe_int) (pe_int)) (pa_cons (pe_str) pa_nil))))))))))))))), ?_⟩
  have k2 : Ke H H := .refl
  have hs : M2s H [] := .nil
  refine ⟨_, rfl, ?_⟩
  refine ⟨by show 0 ≤ sizeLine; decide, fun t1 G1 nt1 kk1 h1 => ?_⟩
  replace k2 : Ke H G1 := k2.trans kk1
  replace hs := hs.ke kk1
  have y1 : ∀ x ∈ ([] : List V), ∃ n, TyF G1 x n := fun x hx => by
    cases hx
  replace hs := M2s.cons ⟨_, .len (.inr h1) (by simp)⟩ hs
  refine ⟨by show 0 ≤ sizeLine; decide, fun t2 nt2 => ?_⟩
  have kk2 : Ke G1 (upd G1 t2 (.lst [])) := Ke.new nt2
  have gt2 : (upd G1 t2 (.lst [])) t2 = some (.lst []) := upd_same
  generalize eG2 : upd G1 t2 _ = G2 at *
  clear eG2
  replace k2 : Ke H G2 := k2.trans kk2
  replace hs := hs.ke kk2
  replace hs := M2s.cons (m2_ty (.lst gt2) (by decide)) hs
  refine fun t3 nt3 => ?_
  have kk3 : Ke G2 (upd G2 t3 (.dK [])) := Ke.new nt3
  have gt3 : (upd G2 t3 (.dK [])) t3 = some (.dK []) := upd_same
  generalize eG3 : upd G2 t3 _ = G3 at *
  clear eG3
  replace k2 : Ke H G3 := k2.trans kk3
  replace hs := hs.ke kk3
  replace hs := M2s.cons (m2_ty (.dic gt3) (by decide)) hs
  refine ⟨by show 0 ≤ sizeLine; decide, fun t4 G4 nt4 kk4 h4 => ?_⟩
  replace k2 : Ke H G4 := k2.trans kk4
  replace hs := hs.ke kk4
  have y4 : ∀ x ∈ ([] : List V), ∃ n, TyF G4 x n := fun x hx => by
    cases hx
  replace hs := M2s.cons ⟨_, .len (.inr h4) (by simp)⟩ hs
  have hin := h4
  refine ⟨by show 1 ≤ sizeLine; decide, fun t5 G5 nt5 kk5 h5 => ?_⟩
  replace k2 : Ke H G5 := k2.trans kk5
  replace hs := hs.ke kk5
  have y5 : ∀ x ∈ ([.ref t4] : List V), ∃ n, TyF G5 x n := fun x hx => by
    simp only [List.mem_cons, List.not_mem_nil, or_false] at hx
    rcases hx with rfl
    · exact ⟨_, .tf (TF.ke hin kk5)⟩
  replace hs := M2s.cons ⟨_, .len (.inr h5) (by simp)⟩ hs
  refine ⟨by show 0 ≤ sizeLine; decide, fun t6 G6 nt6 kk6 h6 => ?_⟩
  replace k2 : Ke H G6 := k2.trans kk6
  replace hs := hs.ke kk6
  have y6 : ∀ x ∈ ([] : List V), ∃ n, TyF G6 x n := fun x hx => by
    cases hx
  replace hs := M2s.cons ⟨_, .len (.inr h6) (by simp)⟩ hs
  refine ⟨by show 1 ≤ sizeLine; decide, fun t7 nt7 => ?_⟩
  have kk7 : Ke G6 (upd G6 t7 (.lst [.ref t6])) := Ke.new nt7
  have gt7 : (upd G6 t7 (.lst [.ref t6])) t7 = some (.lst [.ref t6]) := upd_same
  generalize eG7 : upd G6 t7 _ = G7 at *
  clear eG7
  replace k2 : Ke H G7 := k2.trans kk7
  replace hs := hs.ke kk7
  replace hs := M2s.cons (m2_ty (.lst gt7) (by decide)) hs
  refine ⟨by show 0 ≤ sizeLine; decide, fun t8 G8 nt8 kk8 h8 => ?_⟩
  replace k2 : Ke H G8 := k2.trans kk8
  replace hs := hs.ke kk8
  have y8 : ∀ x ∈ ([] : List V), ∃ n, TyF G8 x n := fun x hx => by
    cases hx
  replace hs := M2s.cons ⟨_, .len (.inr h8) (by simp)⟩ hs
  have hg1 := h8
  refine ⟨by show 0 ≤ sizeLine; decide, fun t9 G9 nt9 kk9 h9 => ?_⟩
  replace k2 : Ke H G9 := k2.trans kk9
  replace hs := hs.ke kk9
  have y9 : ∀ x ∈ ([] : List V), ∃ n, TyF G9 x n := fun x hx => by
    cases hx
  replace hs := M2s.cons ⟨_, .len (.inr h9) (by simp)⟩ hs
  have hg2 := h9
  replace hg1 := hg1.ke kk9
  refine ⟨by show 2 ≤ sizeLine; decide, fun t10 G10 nt10 kk10 h10 => ?_⟩
  replace k2 : Ke H G10 := k2.trans kk10
  replace hs := hs.ke kk10
  have y10 : ∀ x ∈ ([.ref t8, .ref t9] : List V), ∃ n, TyF G10 x n := fun x hx => by
    simp only [List.mem_cons, List.not_mem_nil, or_false] at hx
    rcases hx with rfl | rfl
    · exact ⟨_, .tf (hg1.ke kk10)⟩
    · exact ⟨_, .tf (hg2.ke kk10)⟩
  replace hs := M2s.cons ⟨_, .yes (.inr h10) (ThF.yes (hg1.ke kk10) (fun _ z => nomatch z)) (LQ.yes (ls := []) (.inr (hg2.ke kk10)) fun _ z => nomatch z)⟩ hs
  refine ⟨by show 1 ≤ sizeLine; decide, fun t11 G11 nt11 kk11 h11 => ?_⟩
  replace k2 : Ke H G11 := k2.trans kk11
  replace hs := hs.ke kk11
  have y11 : ∀ x ∈ ([.non] : List V), ∃ n, TyF G11 x n := fun x hx => by
    simp only [List.mem_cons, List.not_mem_nil, or_false] at hx
    rcases hx with rfl
    · exact ⟨_, .non⟩
  replace hs := M2s.cons ⟨_, .len (.inr h11) (by simp)⟩ hs
  refine ⟨by show 1 ≤ sizeLine; decide, fun t12 G12 nt12 kk12 h12 => ?_⟩
  replace k2 : Ke H G12 := k2.trans kk12
  replace hs := hs.ke kk12
  have y12 : ∀ x ∈ ([.int 0] : List V), ∃ n, TyF G12 x n := fun x hx => by
    simp only [List.mem_cons, List.not_mem_nil, or_false] at hx
    rcases hx with rfl
    · exact ⟨_, .int 0⟩
  replace hs := M2s.cons ⟨_, .len (.inr h12) (by simp)⟩ hs
  refine ⟨by show 1 ≤ sizeLine; decide, fun t13 nt13 => ?_⟩
  have kk13 : Ke G12 (upd G12 t13 (.lst [.int 0])) := Ke.new nt13
  have gt13 : (upd G12 t13 (.lst [.int 0])) t13 = some (.lst [.int 0]) := upd_same
  generalize eG13 : upd G12 t13 _ = G13 at *
  clear eG13
  replace k2 : Ke H G13 := k2.trans kk13
  replace hs := hs.ke kk13
  replace hs := M2s.cons (m2_ty (.lst gt13) (by decide)) hs
  refine ⟨by show 19 ≤ sizeLine; decide, fun t14 nt14 => ?_⟩
  have kk14 : Ke G13 (upd G13 t14 (.lst [.non, .bl true, .bl false, .int 0, .int 1, .int (-1), .int 7, .str (Str.ofString ""), .str (Str.ofString "0"), .str (Str.ofString "web"), .ref t1, .ref t2, .ref t3, .ref t5, .ref t7, .ref t10, .ref t11, .ref t12, .ref t13])) := Ke.new nt14
  have gt14 : (upd G13 t14 (.lst [.non, .bl true, .bl false, .int 0, .int 1, .int (-1), .int 7, .str (Str.ofString ""), .str (Str.ofString "0"), .str (Str.ofString "web"), .ref t1, .ref t2, .ref t3, .ref t5, .ref t7, .ref t10, .ref t11, .ref t12, .ref t13])) t14 = some (.lst [.non, .bl true, .bl false, .int 0, .int 1, .int (-1), .int 7, .str (Str.ofString ""), .str (Str.ofString "0"), .str (Str.ofString "web"), .ref t1, .ref t2, .ref t3, .ref t5, .ref t7, .ref t10, .ref t11, .ref t12, .ref t13]) := upd_same
  generalize eG14 : upd G13 t14 _ = G14 at *
  clear eG14
  replace k2 : Ke H G14 := k2.trans kk14
  replace hs := hs.ke kk14
  have hL14 : M2s G14 [.non, .bl true, .bl false, .int 0, .int 1, .int (-1), .int 7, .str (Str.ofString ""), .str (Str.ofString "0"), .str (Str.ofString "web"), .ref t1, .ref t2, .ref t3, .ref t5, .ref t7, .ref t10, .ref t11, .ref t12, .ref t13] := (hs |>.cons (m2_ty (.non) (by decide)) |>.cons (m2_ty (.bl true) (by decide)) |>.cons (m2_ty (.bl false) (by decide)) |>.cons (m2_ty (.int 0) (by decide)) |>.cons (m2_ty (.int 1) (by decide)) |>.cons (m2_ty (.int (-1)) (by decide)) |>.cons (m2_ty (.int 7) (by decide)) |>.cons (m2_ty (.str (Str.ofString "")) (by decide)) |>.cons (m2_ty (.str (Str.ofString "0")) (by decide)) |>.cons (m2_ty (.str (Str.ofString "web")) (by decide))).sub fun y hy => by
    simp only [List.mem_cons, List.not_mem_nil, or_false] at hy ⊢
    rcases hy with h | h | h | h | h | h | h | h | h | h | h | h | h | h | h | h | h | h | h <;> simp [h]
  clear hs
  have hs : M2s G14 [] := .nil
  refine ⟨_, rfl, ?_⟩
  refine fun t15 nt15 => ⟨upd_same, [(Sum.inl 0, .int 1)], rfl, by show 1 ≤ 15; decide, ?_⟩
  rw [upd_upd]
  have kk15 : Ke G14 (upd G14 t15 (.dK (mergeK [] [(Sum.inl 0, .int 1)]))) := Ke.new nt15
  have gt15 : (upd G14 t15 (.dK (mergeK [] [(Sum.inl 0, .int 1)]))) t15 = some (.dK (mergeK [] [(Sum.inl 0, .int 1)])) := upd_same
  generalize eG15 : upd G14 t15 _ = G15 at *
  clear eG15
  replace k2 : Ke H G15 := k2.trans kk15
  replace gt14 := Ke.lst kk15 gt14
  replace hs := hs.ke kk15
  replace hL14 := hL14.ke kk15
  replace hs := M2s.cons (m2_ty (.dic gt15) (by decide)) hs
  refine fun d16 nd16 => ⟨by show 0 ≤ sizeLine; decide, fun t16 GA16 np16 kA16 hp16 => ⟨kA16.at_ d16 _ upd_same (fun _ z => nomatch z) (fun z => z), [(Sum.inr "a", .ref t16)], rfl, by show 1 ≤ 15; decide, ?_⟩⟩
  have kk16 : Ke G15 (upd GA16 d16 (.dK (mergeK [] [(Sum.inr "a", .ref t16)]))) := (Kx.trans (Ke.new nd16) kA16).over nd16
  have gd16 : (upd GA16 d16 (.dK (mergeK [] [(Sum.inr "a", .ref t16)]))) d16 = some (.dK (mergeK [] [(Sum.inr "a", .ref t16)])) := upd_same
  generalize eG16 : upd GA16 d16 _ = G16 at *
  clear eG16
  replace k2 : Ke H G16 := k2.trans kk16
  replace gt14 := Ke.lst kk16 gt14
  replace hs := hs.ke kk16
  replace hL14 := hL14.ke kk16
  replace hs := M2s.cons (m2_ty (.dic gd16) (by decide)) hs
  refine ⟨by show 2 ≤ sizeLine; decide, fun t17 G17 nt17 kk17 h17 => ?_⟩
  replace k2 : Ke H G17 := k2.trans kk17
  replace gt14 := Ke.lst kk17 gt14
  replace hs := hs.ke kk17
  replace hL14 := hL14.ke kk17
  have y17 : ∀ x ∈ ([.int 0, .int 0] : List V), ∃ n, TyF G17 x n := fun x hx => by
    simp only [List.mem_cons, List.not_mem_nil, or_false] at hx
    rcases hx with rfl | rfl
    · exact ⟨_, .int 0⟩
    · exact ⟨_, .int 0⟩
  replace hs := M2s.cons ⟨_, .yes (.inr h17) (.no (.int 0) (by decide)) (.no (.int 0) (by decide))⟩ hs
  refine ⟨by show 1 ≤ sizeLine; decide, fun t18 G18 nt18 kk18 h18 => ?_⟩
  replace k2 : Ke H G18 := k2.trans kk18
  replace gt14 := Ke.lst kk18 gt14
  replace hs := hs.ke kk18
  replace hL14 := hL14.ke kk18
  have y18 : ∀ x ∈ ([.bl true] : List V), ∃ n, TyF G18 x n := fun x hx => by
    simp only [List.mem_cons, List.not_mem_nil, or_false] at hx
    rcases hx with rfl
    · exact ⟨_, .bl true⟩
  replace hs := M2s.cons ⟨_, .len (.inr h18) (by simp)⟩ hs
  refine ⟨by show 1 ≤ sizeLine; decide, fun t19 G19 nt19 kk19 h19 => ?_⟩
  replace k2 : Ke H G19 := k2.trans kk19
  replace gt14 := Ke.lst kk19 gt14
  replace hs := hs.ke kk19
  replace hL14 := hL14.ke kk19
  have y19 : ∀ x ∈ ([.str (Str.ofString "0")] : List V), ∃ n, TyF G19 x n := fun x hx => by
    simp only [List.mem_cons, List.not_mem_nil, or_false] at hx
    rcases hx with rfl
    · exact ⟨_, .str (Str.ofString "0")⟩
  replace hs := M2s.cons ⟨_, .len (.inr h19) (by simp)⟩ hs
  refine ⟨by show 1 ≤ sizeLine; decide, fun t20 G20 nt20 kk20 h20 => ?_⟩
  replace k2 : Ke H G20 := k2.trans kk20
  replace gt14 := Ke.lst kk20 gt14
  replace hs := hs.ke kk20
  replace hL14 := hL14.ke kk20
  have y20 : ∀ x ∈ ([.int 0] : List V), ∃ n, TyF G20 x n := fun x hx => by
    simp only [List.mem_cons, List.not_mem_nil, or_false] at hx
    rcases hx with rfl
    · exact ⟨_, .int 0⟩
  replace hs := M2s.cons ⟨_, .len (.inr h20) (by simp)⟩ hs
  have hi6 := h20
  refine ⟨by show 1 ≤ sizeLine; decide, fun t21 G21 nt21 kk21 h21 => ?_⟩
  replace k2 : Ke H G21 := k2.trans kk21
  replace gt14 := Ke.lst kk21 gt14
  replace hs := hs.ke kk21
  replace hL14 := hL14.ke kk21
  have y21 : ∀ x ∈ ([.ref t20] : List V), ∃ n, TyF G21 x n := fun x hx => by
    simp only [List.mem_cons, List.not_mem_nil, or_false] at hx
    rcases hx with rfl
    · exact ⟨_, .tf (hi6.ke kk21)⟩
  replace hs := M2s.cons ⟨_, .len (.inr h21) (by simp)⟩ hs
  refine ⟨by show 0 ≤ sizeLine; decide, fun t22 nt22 => ?_⟩
  have kk22 : Ke G21 (upd G21 t22 (.lst [])) := Ke.new nt22
  have gt22 : (upd G21 t22 (.lst [])) t22 = some (.lst []) := upd_same
  generalize eG22 : upd G21 t22 _ = G22 at *
  clear eG22
  replace k2 : Ke H G22 := k2.trans kk22
  replace gt14 := Ke.lst kk22 gt14
  replace hs := hs.ke kk22
  replace hL14 := hL14.ke kk22
  replace hs := M2s.cons (m2_ty (.lst gt22) (by decide)) hs
  refine ⟨by show 1 ≤ sizeLine; decide, fun t23 G23 nt23 kk23 h23 => ?_⟩
  replace k2 : Ke H G23 := k2.trans kk23
  replace gt14 := Ke.lst kk23 gt14
  replace hs := hs.ke kk23
  replace hL14 := hL14.ke kk23
  have y23 : ∀ x ∈ ([.ref t22] : List V), ∃ n, TyF G23 x n := fun x hx => by
    simp only [List.mem_cons, List.not_mem_nil, or_false] at hx
    rcases hx with rfl
    · exact ⟨_, .lst (Ke.lst kk23 gt22)⟩
  replace hs := M2s.cons ⟨_, .len (.inr h23) (by simp)⟩ hs
  refine ⟨by show 3 ≤ sizeLine; decide, fun t24 G24 nt24 kk24 h24 => ?_⟩
  replace k2 : Ke H G24 := k2.trans kk24
  replace gt14 := Ke.lst kk24 gt14
  replace hs := hs.ke kk24
  replace hL14 := hL14.ke kk24
  have y24 : ∀ x ∈ ([.int 0, .int 1, .int 2] : List V), ∃ n, TyF G24 x n := fun x hx => by
    simp only [List.mem_cons, List.not_mem_nil, or_false] at hx
    rcases hx with rfl | rfl | rfl
    · exact ⟨_, .int 0⟩
    · exact ⟨_, .int 1⟩
    · exact ⟨_, .int 2⟩
  replace hs := M2s.cons ⟨_, .len (.inr h24) (by simp)⟩ hs
  refine ⟨by show 2 ≤ sizeLine; decide, fun t25 nt25 => ?_⟩
  have kk25 : Ke G24 (upd G24 t25 (.lst [.int 0, .int 1])) := Ke.new nt25
  have gt25 : (upd G24 t25 (.lst [.int 0, .int 1])) t25 = some (.lst [.int 0, .int 1]) := upd_same
  generalize eG25 : upd G24 t25 _ = G25 at *
  clear eG25
  replace k2 : Ke H G25 := k2.trans kk25
  replace gt14 := Ke.lst kk25 gt14
  replace hs := hs.ke kk25
  replace hL14 := hL14.ke kk25
  replace hs := M2s.cons (m2_ty (.lst gt25) (by decide)) hs
  refine ⟨_, _, rfl, rfl, ⟨by decide, by decide, by decide⟩, by show 11 ≤ sizeLine; decide, fun t26 nt26 => ?_⟩
  have kk26 : Ke G25 (upd G25 t26 (.lst [.ref t15, .ref d16, .ref t17, .ref t18, .ref t19, .ref t21, .ref t23, .ref t24, .ref t25, .int (10 ^ (30 : Int).toNat), .str (Str.ofString "()")])) := Ke.new nt26
  have gt26 : (upd G25 t26 (.lst [.ref t15, .ref d16, .ref t17, .ref t18, .ref t19, .ref t21, .ref t23, .ref t24, .ref t25, .int (10 ^ (30 : Int).toNat), .str (Str.ofString "()")])) t26 = some (.lst [.ref t15, .ref d16, .ref t17, .ref t18, .ref t19, .ref t21, .ref t23, .ref t24, .ref t25, .int (10 ^ (30 : Int).toNat), .str (Str.ofString "()")]) := upd_same
  generalize eG26 : upd G25 t26 _ = G26 at *
  clear eG26
  replace k2 : Ke H G26 := k2.trans kk26
  replace gt14 := Ke.lst kk26 gt14
  replace hs := hs.ke kk26
  replace hL14 := hL14.ke kk26
  have hL26 : M2s G26 [.ref t15, .ref d16, .ref t17, .ref t18, .ref t19, .ref t21, .ref t23, .ref t24, .ref t25, .int (10 ^ (30 : Int).toNat), .str (Str.ofString "()")] := (hs |>.cons (m2_ty (.int (10 ^ (30 : Int).toNat)) (by decide)) |>.cons (m2_ty (.str (Str.ofString "()")) (by decide))).sub fun y hy => by
    simp only [List.mem_cons, List.not_mem_nil, or_false] at hy ⊢
    rcases hy with h | h | h | h | h | h | h | h | h | h | h <;> simp [h]
  clear hs
  have hs : M2s G26 [] := .nil
  refine ⟨t14, t26, _, _, rfl, rfl, gt14, gt26, (by show 30 ≤ sizeLine; decide), fun l3 nl3 => ?_⟩
  exact q _ l3 _ (Kx.trans k2 (Ke.new nl3)) (k2.dom _ nl3) upd_same ((hL14.app hL26).new nl3) (by show 30 ≤ 100; decide)
theorem ok__law_outs {P : Program} {w : World} {K : PySem.W.Frag} {mg : Str → Option Value} {base : Heap} {tb : List Addr} {f : Addr} {fd : FuncData} (T : Blt mg) (D__law_outs : DefAt K mg "_law_outs" s_law_outs ["_law_web_here", "_law_ways"] f fd) :
    FnOk P w K mg base CX0 1 f fd ["_law_web_here", "_law_ways"] (sp__law_outs K tb) := by
  refine D__law_outs.ok sc__law_outs (fun vs H Q E h => by
    obtain ⟨v, n, ts, a, ws, rfl, W, hn0, hn1, ha, q⟩ := h
    all_goals rfl) fun A outer s H vs Q E hr h => ?_
  obtain ⟨v, n, ts, a, ws, rfl, W, hn0, hn1, ha, q⟩ := h
  refine ⟨_, pss_one (ps_ret (pe_callTy (tupleK (K := K)) (by rfl) T.b_tuple (by decide +kernel) (pa_cons (pe_lc (own := [("_law_k", 2)]) rfl sc__law_outs.nd (pi_range1 (by rfl) T.b_range (pa_cons (pe_ix (ix_tupK (K := K)) (pv 0) (pe_int) (fun _ _ => rfl)) pa_nil)) (blkOk_by (own := [("_law_k", 2)]) (N := nm__law_outs) (sc := defScope s_law_outs) (by decide +kernel)) (fun _ _ _ _ _ => pg_name (i := 2) sc__law_outs.nd rfl (.inl rfl)) (fun _ _ _ _ _ => pts_nil) (fun _ _ _ _ _ => pe_bmF PySem.F.slot_tuple_count PySem.F.type_tuple_count (mt_tcount (K := K)) (pv 1) (pa_cons (pv 2) pa_nil))) pa_nil))), ?_⟩
  have LB := line_big
  obtain ⟨t, u, rs, rfl, ht, hu, hT⟩ := W
  refine ⟨_, rfl, t, _, 0, _, rfl, rfl, sqT_of ht, atI_nat (j := 0) rfl, n, rfl, by omega, by omega, fun D hD => ?_⟩
  refine lc_range (lo := 0) (n := n.toNat) (fun i G => Ke H G ∧ G D = some (.lst (((upTo i).map fun p => (ws.count p : Int)).map V.int))) ⟨Ke.new hD, upd_same⟩ (fun i G hi hG => ?_) (fun G hG => ?_)
  · obtain ⟨kG, gD⟩ := hG
    refine ⟨rfl, yes_ite ?_⟩
    refine ⟨_, rfl, ⟨a, _, rfl, ha.ke kG⟩, _, rfl, a, ws, _, rfl, rfl, (ha.ke kG).sq, _, gD, by rw [List.length_map, List.length_map, upTo_length]; omega, kG.over hD, ?_⟩
    rw [upd_same, show ((i + 1 : Nat) : Int) = (i : Int) + 1 by omega, upTo_snoc, List.map_append, List.map_append, Int.zero_add]
    rfl
  · obtain ⟨kG, gD⟩ := hG
    rw [show ((n.toNat : Nat) : Int) = n by omega] at gD
    refine ⟨D, _, rfl, .inl ⟨sqL_of gD, fun p np => q _ p (kG.trans (Ke.new np)) upd_same⟩⟩
theorem ok__law_is_lot {P : Program} {w : World} {K : PySem.W.Frag} {mg : Str → Option Value} {base : Heap} {tb : List Addr} {f : Addr} {fd : FuncData} {f__law_is_int : Addr} {fd__law_is_int : FuncData} (T : Blt mg) (D__law_is_lot : DefAt K mg "_law_is_lot" s_law_is_lot ["_law_web_here", "_law_thing"] f fd) (D__law_is_int : DefAt K mg "_law_is_int" s_law_is_int ["_law_thing", "_law_least", "_law_most"] f__law_is_int fd__law_is_int) (G__law_is_int : FnOk P w K mg base CX0 1 f__law_is_int fd__law_is_int ["_law_thing", "_law_least", "_law_most"] (sp__law_is_int K tb)) :
    FnOk P w K mg base CX0 2 f fd ["_law_web_here", "_law_thing"] (sp__law_is_lot K tb) := by
  refine D__law_is_lot.ok sc__law_is_lot (fun vs H Q E h => by
    obtain ⟨v, n, ts, t, o, rfl, W, hn1, ht, q⟩ := h
    all_goals rfl) fun A outer s H vs Q E hr h => ?_
  obtain ⟨v, n, ts, t, o, rfl, W, hn1, ht, q⟩ := h
  refine ⟨_, pss_cons (ps_if (PW.pt (pw_or (pt_not (pt_val (pe_callB (isiK (K := K)) (by rfl) T.b_isinstance (by decide +kernel) (pa_cons (pv 1) (pa_cons (pe_bltn (v := .ty "tuple") (u := .type "tuple") (by rfl) T.b_tuple (by decide +kernel) rfl) pa_nil))))) (pw_or (pt_cmpR (op_eq0 (K := K) hr.units) (pv 1) (pe_tup pa_nil) (nomark _)) (pw_or1 (pt_not (pt_val (pe_callB (allK (K := K) rfl) (by rfl) T.b_all (by decide +kernel) (pa_cons (pe_lc (own := [("_law_one", 2)]) rfl sc__law_is_lot.nd (pi_tup (pv 1)) (blkOk_by (own := [("_law_one", 2)]) (N := nm__law_is_lot) (sc := defScope s_law_is_lot) (by decide +kernel)) (fun _ _ _ _ _ => pg_name (i := 2) sc__law_is_lot.nd rfl (.inl rfl)) (fun _ _ _ _ _ => pts_nil) (fun _ _ _ _ _ => pe_call G__law_is_int (hr.mono (by decide)) (by rfl) D__law_is_int.g D__law_is_int.F.kp D__law_is_int.b .nil pass0 (pa_cons (pv 2) (pa_cons (pe_int) (pa_cons (pe_op op_sub (pe_ix (ix_tupK (K := K)) (pv 0) (pe_int) (fun _ _ => rfl)) (pe_int)) pa_nil))))) pa_nil))))))))
     (pss_one (ps_ret (pe_bl)))
     (pss_nil))
     (pss_one (ps_ret (pe_callB (allK (K := K) rfl) (by rfl) T.b_all (by decide +kernel) (pa_cons (pe_lc (own := [("_law_at", 3)]) rfl sc__law_is_lot.nd (pi_range1 (by rfl) T.b_range (pa_cons (pe_op op_sub (pe_callB (lenK (K := K)) (by rfl) T.b_len PySem.boot_len (pa_cons (pv 1) pa_nil)) (pe_int)) pa_nil)) (blkOk_by (own := [("_law_at", 3)]) (N := nm__law_is_lot) (sc := defScope s_law_is_lot) (by decide +kernel)) (fun _ _ _ _ _ => pg_name (i := 3) sc__law_is_lot.nd rfl (.inl rfl)) (fun _ _ _ _ _ => pts_nil) (fun _ _ _ _ _ => pe_cmpR op_lt (pe_ix (ix_tupK (K := K)) (pv 1) (pv 3) (fun _ _ => rfl)) (pe_ix (ix_tupK (K := K)) (pv 1) (pe_op op_add (pv 3) (pe_int)) (fun _ _ => rfl)) (nomark _))) pa_nil)))), ?_⟩
  have LB := line_big
  obtain ⟨tw, wu, rs, rfl, htw, hwu, hT⟩ := id W
  cases ht with
  | @no _ nm h hn =>
    refine ⟨_, rfl, t, _, _, _, _, rfl, .ty _, h.x, isi_noF h hn, _, rfl, ?_⟩
    exact iteT (iteT (q H .refl))
  | @yes c xs h hxl hx =>
  refine ⟨_, rfl, _, _, _, _, true, rfl, .ty _, (h.ty).x, isi_yes, true, rfl, iteF ?_⟩
  refine ⟨_, rfl, by show 0 ≤ sizeLine; decide, fun z nz => ?_⟩
  have kz := Ke.new (S := fun _ => False) (o := .tup []) nz
  have hcz := h.ke kz
  refine ⟨c, z, _, rfl, rfl, hcz.sq, sqT_of upd_same, _, rfl, ?_⟩
  generalize upd H z _ = H1 at *
  by_cases hne : xs = []
  · subst hne
    exact iteT (iteT (q _ kz))
  rw [show xs.isEmpty = false by cases xs with | nil => exact absurd rfl hne | cons _ _ => rfl]
  refine iteF ?_
  refine ⟨_, rfl, c, rfl, ⟨_, hcz.sq⟩, fun D nD => ?_⟩
  refine lc_tup (K := K) (a := c) (xs := xs) (fun i G => Ke H1 G ∧ G D = some (.lst (((xs.take i).map fun x => isNum x 0 (n - 1)).map V.bl))) ⟨Ke.new nD, upd_same⟩ (fun i G _ hG => (hcz.ke hG.1).sq) (fun i x G hx' hG => ?_) (fun G hG => ?_)
  · obtain ⟨kG, gD⟩ := hG
    have xl : i < xs.length := (List.getElem?_eq_some_iff.mp hx').1
    obtain ⟨nm, hty⟩ := hx x (List.mem_of_getElem? hx')
    refine ⟨rfl, yes_ite ?_⟩
    have kH := kz.trans kG
    refine ⟨_, rfl, _, rfl, tw, _, 0, _, rfl, rfl, sqT_of (Ke.tup kH htw), atI_nat (j := 0) rfl, _, _, rfl, rfl, x, 0, n - 1, nm, rfl, hty.ke kH, ?_⟩
    refine ⟨_, gD, by rw [List.length_map, List.length_map, List.length_take]; omega, kG.over nD, ?_⟩
    rw [take_next hx', List.map_append, List.map_append]
    exact upd_same
  · obtain ⟨kG, gD⟩ := hG
    rw [List.take_length] at gD
    have kH := kz.trans kG
    refine ⟨D, _, rfl, sqL_of gD, _, rfl, ?_⟩
    cases ca : (xs.map fun x => isNum x 0 (n - 1)).all id with
    | false =>
      have q0 := q _ kH
      have : lotO n (some xs) = false := by
        cases c0 : lotO n (some xs) with
        | false => rfl
        | true =>
          obtain ⟨ls, e, _, _, hb⟩ := lotO_inv c0
          have e : xs = ls.map V.int := Option.some.inj e
          rw [e, List.map_map, List.all_eq_true.mpr] at ca
          · cases ca
          · intro b hb'
            obtain ⟨y, hy, rfl⟩ := List.mem_map.mp hb'
            have := hb y hy
            show (decide (0 ≤ y) && decide (y ≤ n - 1)) = true
            rw [decide_eq_true this.1, decide_eq_true (by omega)]
            rfl
      rw [this] at q0
      exact iteT q0
    | true =>
    refine iteF ?_
    have hnum : ∀ x ∈ xs, isNum x 0 (n - 1) = true := fun x hx => List.all_eq_true.mp ca _ (List.mem_map.mpr ⟨x, hx, rfl⟩)
    obtain ⟨ex, hbd⟩ := isNum_ints hnum
    generalize intsOf xs = ls at *
    subst ex
    have hlne : ls ≠ [] := fun z => hne (by rw [z]; rfl)
    rw [lotO_all hlne hbd] at q
    have hcG := h.ke kH
    have hll : 0 < ls.length := List.length_pos_iff.mpr hlne
    rw [List.length_map] at hxl
    refine ⟨_, rfl, c, _, rfl, .inr hcG.sq, _, _, rfl, rfl, _, rfl, by rw [List.length_map]; omega, by rw [List.length_map]; omega, fun E nE => ?_⟩
    have hml : (ls.map V.int).length = ls.length := List.length_map _
    refine lc_range (lo := 0) (n := (((ls.map V.int).length : Int) - 1).toNat) (fun i G2 => Ke G G2 ∧ G2 E = some (.lst (((List.range i).map fun (j : Nat) => decide (hat ls (j : Int) < hat ls ((j : Int) + 1))).map V.bl))) ⟨Ke.new nE, upd_same⟩ (fun i G2 hi hG => ?_) (fun G2 hG => ?_)
    · obtain ⟨k2, gE⟩ := hG
      have il : i + 1 < ls.length := by omega
      have e1 := hat_at (ls := ls) (x := 0 + (i : Int)) (by omega) (by omega)
      have e2 := hat_at (ls := ls) (x := 0 + (i : Int) + 1) (by omega) (by omega)
      refine ⟨rfl, yes_ite ?_⟩
      refine ⟨_, rfl, _, rfl, c, _, _, _, rfl, rfl, (hcG.ke k2).sq, e1, _, rfl, _, rfl, _, _, rfl, rfl, c, _, _, _, rfl, rfl, (hcG.ke k2).sq, e2, _, _, rfl, rfl, ?_⟩
      refine ⟨_, gE, by rw [List.length_map, List.length_map, List.length_range]; omega, k2.over nE, ?_⟩
      rw [upd_same, List.range_succ, List.map_append, List.map_append, Int.zero_add]
      rfl
    · obtain ⟨k2, gE⟩ := hG
      refine ⟨E, _, rfl, sqL_of gE, ?_⟩
      have q0 := q _ (kH.trans k2)
      rw [show (((ls.map V.int).length : Int) - 1).toNat = ls.length - 1 by rw [hml]; omega, List.all_map]
      exact q0
theorem ok__law_leads {P : Program} {w : World} {K : PySem.W.Frag} {mg : Str → Option Value} {base : Heap} {tb : List Addr} {f : Addr} {fd : FuncData} (T : Blt mg) (D__law_leads : DefAt K mg "_law_leads" s_law_leads ["_law_web_here", "_law_ways"] f fd) :
    FnOk P w K mg base CX0 1 f fd ["_law_web_here", "_law_ways"] (sp__law_leads K tb) := by
  refine D__law_leads.ok sc__law_leads (fun vs H Q E h => by
    obtain ⟨v, n, ts, a, ws, rfl, W, ha, hwl, hlen, q⟩ := h
    all_goals rfl) fun A outer s H vs Q E hr h => ?_
  obtain ⟨v, n, ts, a, ws, rfl, W, ha, hwl, hlen, q⟩ := h
  refine ⟨_, pss_one (ps_ret (pe_lc (own := [("_law_tie_here", 2), ("_law_out", 3)]) rfl sc__law_leads.nd (RZ.pi_zipA (by rfl) T.b_zip (pa_cons (pe_ix (ix_tupK (K := K)) (pv 0) (pe_int) (fun _ _ => rfl)) (pa_cons (pv 1) pa_nil))) (blkOk_by (own := [("_law_tie_here", 2), ("_law_out", 3)]) (N := nm__law_leads) (sc := defScope s_law_leads) (by decide +kernel)) (fun _ _ _ _ _ => tgtK (K := K) (n := 2) (pgs_cons (pg_name (i := 2) sc__law_leads.nd rfl (.inl rfl)) (pgs_cons (pg_name (i := 3) sc__law_leads.nd rfl (.inl rfl)) pgs_nil))) (fun _ _ _ _ _ => pts_nil) (fun _ _ _ _ _ => pe_tup (pa_cons (pv 3) (pa_cons (pe_op op_sub (pe_op op_add (pe_ix (ix_tupK (K := K)) (pv 2) (pe_int) (fun _ _ => rfl)) (pe_ix (ix_tupK (K := K)) (pv 2) (pe_int) (fun _ _ => rfl))) (pv 3)) pa_nil))))), ?_⟩
  have LB := line_big
  obtain ⟨tw, wu, rs0, rfl, htw, hwu, hTs⟩ := id W
  have hrl := hTs.length
  refine ⟨_, rfl, tw, _, 1, _, rfl, rfl, sqT_of htw, atI_nat (j := 1) rfl, _, rfl, ?_⟩
  refine ⟨wu, a, _, _, rfl, .inr ⟨sqT_of (K := K) hwu, ha.sq, fun D hD => ?_⟩⟩
  have hfl : (leadsF ts ws).length = ts.length := by unfold leadsF; rw [List.length_map, List.length_zip]; omega
  refine lc_it (walk_zipT (K := K) (a := wu) (b := a) (xs := rs0) (ys := ws.map V.int) (n := ts.length) (by rw [List.length_map]; omega)) (fun i G => Ke H G ∧ ∃ hs, G D = some (.lst hs) ∧ Ties G hs ((leadsF ts ws).take i)) ⟨Ke.new hD, [], upd_same, .nil⟩ (fun i G _ hG => ⟨sqT_of (hG.1.tup hwu), (ha.ke hG.1).sq⟩) (fun i x G G' hi hG hy => ?_) (fun G hG => ?_)
  · obtain ⟨kG, hs, gD, hH⟩ := hG
    obtain ⟨T1, z1, y1, rfl, nT, rfl, e2, e1⟩ := hy
    obtain ⟨w1, hw1, rfl⟩ := int_at e1
    obtain ⟨⟨ta, tb'⟩, qt, hti, rfl, hqt⟩ := hTs.get e2
    have kT := Ke.new (S := fun _ => False) (o := .tup [.ref qt, .int w1]) nT
    have kGT := kG.trans kT
    have gT : (upd G T1 (.tup [.ref qt, .int w1])) T1 = some (.tup [.ref qt, .int w1]) := upd_same
    have gD1 := Ke.lst kT gD
    have hH1 := hH.ke kT
    generalize upd G T1 _ = G2 at *
    have hqt2 := Ke.tup kGT hqt
    refine ⟨T1, _, rfl, sqT_of gT, rfl, _, _, rfl, _, [], rfl, rfl, rfl, yes_ite ?_⟩
    refine ⟨_, rfl, _, rfl, qt, _, 0, _, rfl, rfl, sqT_of hqt2, atI_nat (j := 0) rfl, _, rfl, qt, _, 1, _, rfl, rfl, sqT_of hqt2, atI_nat (j := 1) rfl, _, _, rfl, rfl, _, rfl, _, _, rfl, rfl, by show 2 ≤ sizeLine; decide, fun t2 nt2 => ?_⟩
    have k4 := Ke.new (S := fun _ => False) (o := .tup [.int w1, .int (ta + tb' - w1)]) nt2
    have gD4 := Ke.lst k4 gD1
    have hil := hH1.length
    rw [List.length_take] at hil
    refine ⟨hs, gD4, by omega, (kGT.trans k4).over hD, hs ++ [.ref t2], upd_same, ?_⟩
    have hhi : (leadsF ts ws)[i]? = some (w1, ta + tb' - w1) := by
      unfold leadsF
      rw [List.getElem?_map]
      have : (ts.zip ws)[i]? = some ((ta, tb'), w1) := by
        rw [List.getElem?_zip_eq_some]
        exact ⟨hti, hw1⟩
      rw [this]
      rfl
    rw [take_next hhi]
    exact ((hH1.ke k4).append (Ties.one upd_same)).put gD4
  obtain ⟨kG, hs, gD, hH⟩ := hG
  rw [List.take_of_length_le (by omega)] at hH
  exact q G D hs kG hD gD hH
theorem ok__law_come_to {P : Program} {w : World} {K : PySem.W.Frag} {mg : Str → Option Value} {base : Heap} {tb : List Addr} {f : Addr} {fd : FuncData} (T : Blt mg) (D__law_come_to : DefAt K mg "_law_come_to" s_law_come_to ["_law_leads_here", "_law_starts"] f fd) :
    FnOk P w K mg base CX0 1 f fd ["_law_leads_here", "_law_starts"] (sp__law_come_to K tb) := by
  refine D__law_come_to.ok sc__law_come_to (fun vs H Q E h => by
    obtain ⟨la, sa, n, rs, ls, ss, rfl, hla, hL, hsa, hnd, hsb, hlb, hn0, hn1, hll, q⟩ := h
    all_goals rfl) fun A outer s H vs Q E hr h => ?_
  obtain ⟨la, sa, n, rs, ls, ss, rfl, hla, hL, hsa, hnd, hsb, hlb, hn0, hn1, hll, q⟩ := h
  refine ⟨_, pss_cons (ps_set (i := 2) sc__law_come_to.nd rfl (.inr rfl) (pe_callTy (listK (K := K)) (by rfl) T.b_list (by decide +kernel) (pa_cons (pv 1) pa_nil)))
     (pss_cons (ps_set (i := 3) sc__law_come_to.nd rfl (.inr rfl) (pe_int))
     (pss_cons (ps_while PassesOwn.never (pt_cmpR op_lt (pv 3) (pe_callB (lenK (K := K)) (by rfl) T.b_len PySem.boot_len (pa_cons (pv 2) pa_nil)) (nomark _))
     (pss_cons (ps_set (i := 2) sc__law_come_to.nd rfl (.inr rfl) (pe_op op_cat (pv 2) (pe_callB (cr_sortedSetB rfl) (by rfl) T.b_sorted (by decide +kernel) (pa_cons (pe_callTy (cr_setL rfl) (by rfl) T.b_set (by decide +kernel) (pa_cons (pe_lc (own := [("_law_out", 4), ("_law_other", 5)]) rfl sc__law_come_to.nd (pi_list (pv 0)) (blkOk_by (own := [("_law_out", 4), ("_law_other", 5)]) (N := nm__law_come_to) (sc := defScope s_law_come_to) (by decide +kernel)) (fun _ _ _ _ _ => tgtK (K := K) (n := 2) (pgs_cons (pg_name (i := 4) sc__law_come_to.nd rfl (.inl rfl)) (pgs_cons (pg_name (i := 5) sc__law_come_to.nd rfl (.inl rfl)) pgs_nil))) (fun _ _ _ _ _ => pts_one (PW.pt (pw_and (pt_cmpR op_eq (pv 4) (pe_ix (ix_listK (K := K)) (pv 2) (pv 3) (fun _ _ => rfl)) (nomark _)) (pw_and1 (pt_cmpR (notIn_seqK (K := K)) (pv 5) (pv 2) (by rfl)))))) (fun _ _ _ _ _ => pv 5)) pa_nil)) pa_nil))))
     (pss_one (ps_set (i := 3) sc__law_come_to.nd rfl (.inr rfl) (pe_op op_add (pv 3) (pe_int))))))
     (pss_one (ps_ret (pv 2))))), ?_⟩
  have LB := line_big
  have hrl := hL.length
  refine ⟨_, rfl, sa, _, rfl, .inl (sqL_of hsa), fun l0 nl0 => ?_⟩
  have kz0 := Ke.new (S := fun _ => False) (o := .lst (ss.map V.int)) nl0
  have gl0 : (upd H l0 (.lst (ss.map V.int))) l0 = some (.lst (ss.map V.int)) := upd_same
  generalize upd H l0 _ = G0 at *
  refine while_gh (α := List Int × Nat) (fun α σ G => ∃ (l : Addr) (y4 y5 : Option V), σ = [some (.ref la), some (.ref sa), some (.ref l), some (.int (α.2 : Int)), y4, y5] ∧ Ke H G ∧ H l = none ∧ G l = some (.lst (α.1.map V.int)) ∧ α.1.Nodup ∧ (∀ x ∈ α.1, 0 ≤ x ∧ x < n) ∧ (∀ x ∈ α.1, Cm ls ss x) ∧ (∀ x ∈ ss, x ∈ α.1) ∧ (∀ i : Nat, i < α.2 → ∀ x y, α.1[i]? = some x → (x, y) ∈ ls → y ∈ α.1) ∧ α.2 ≤ α.1.length) (fun α => n.toNat - α.2) (ss, 0) ?_ (fun α σ G hW => ?_) ?_
  · exact ⟨_, _, _, rfl, kz0, nl0, gl0, hnd, hsb, fun x hx => .base hx, fun _ z => z, fun i z => absurd z (Nat.not_lt_zero _), Nat.zero_le _⟩
  · obtain ⟨R, at_⟩ := α
    obtain ⟨l, y4, y5, rfl, kG, nl, gl, nd, bd, cm, bs, pr, al⟩ := hW
    dsimp only at gl nd bd cm bs pr al ⊢
    have hRn : R.length ≤ n.toNat := by
      have := nd_le nd (m := upTo n) fun x hx => upTo_mem.mpr (bd x hx)
      rw [upTo_length] at this
      exact this
    refine ⟨_, rfl, _, rfl, l, _, rfl, .inl (sqL_of gl), _, _, rfl, rfl, _, rfl, iteB (fun hb => ?_) (fun hb => ?_)⟩
    · have hb : (at_ : Int) < ((R.map V.int).length : Int) := of_decide_eq_true hb
      rw [List.length_map] at hb
      have hx : R[at_]? = some (R[at_]'(by omega)) := List.getElem?_eq_getElem (by omega)
      generalize R[at_]'(by omega) = x at hx
      have hla2 := Ke.lst kG hla
      have hL2 := hL.ke kG
      refine ⟨_, rfl, _, rfl, la, rfl, ⟨_, sqL_of hla2⟩, fun D hD => ?_⟩
      have nDl : D ≠ l := fun z => by rw [z, gl] at hD; cases hD
      refine lc_list (K := K) (a := la) (xs := rs) (fun i G' => Ke G G' ∧ ∃ ms : List Int, G' D = some (.lst (ms.map V.int)) ∧ ms.length ≤ i ∧ (∀ y ∈ ms, (x, y) ∈ ls ∧ y ∉ R) ∧ ∀ y, (x, y) ∈ ls.take i → y ∉ R → y ∈ ms) ⟨Ke.new hD, [], upd_same, Nat.le_refl _, (fun _ z => nomatch z), (fun _ z => nomatch z)⟩ (fun i G' _ hG => sqL_of (hG.1.lst hla2)) (fun i r G' hr hG => ?_) (fun G' hG => ?_)
      · obtain ⟨k2, ms, gD, hml, h1, h2⟩ := hG
        obtain ⟨⟨ea, eb⟩, qe, hei, rfl, he⟩ := (hL2.ke k2).get hr
        have gl2 := k2.lst gl
        have il := (List.getElem?_eq_some_iff.mp hei).1
        have em := List.mem_of_getElem? hei
        have nx : ∀ ms' : List Int, (∀ y ∈ ms, y ∈ ms') → (ea = x → eb ∉ R → eb ∈ ms') → ∀ y, (x, y) ∈ ls.take (i + 1) → y ∉ R → y ∈ ms' := fun ms' a b y hy hyR => by
          rw [take_next hei] at hy
          rcases List.mem_append.mp hy with hy | hy
          · exact a y (h2 y hy hyR)
          · have := List.mem_singleton.mp hy
            cases this
            exact b rfl hyR
        refine ⟨qe, _, rfl, sqT_of he, rfl, _, _, rfl, _, [], rfl, rfl, rfl, ?_⟩
        refine ⟨_, rfl, _, rfl, _, rfl, l, _, _, _, rfl, rfl, sqL_of gl2, atI_nat (v := .int x) (by rw [List.getElem?_map, hx]; rfl), rfl, _, rfl, ?_⟩
        show (if decide (V.int ea = V.int x) = true then _ else _)
        by_cases ce : ea = x
        rotate_left
        · rw [decide_eq_false (fun z => ce (V.int.inj z))]
          refine (if_neg Bool.false_ne_true).mpr ?_
          exact iteF ⟨k2, ms, gD, by omega, h1, nx ms (fun _ z => z) fun z => absurd z ce⟩
        subst ce
        rw [decide_eq_true rfl]
        refine (if_pos rfl).mpr ?_
        refine ⟨_, rfl, _, rfl, l, _, rfl, .inl (sqL_of gl2), rfl, flat_ints R, _, rfl, ?_⟩
        rw [inV_int]
        by_cases cb : eb ∈ R
        · rw [decide_eq_true cb]
          exact iteF ⟨k2, ms, gD, by omega, h1, nx ms (fun _ z => z) fun _ z => absurd cb z⟩
        · rw [decide_eq_false cb]
          refine iteT ⟨_, rfl, _, gD, by rw [List.length_map]; omega, k2.over hD, ms ++ [eb], by rw [List.map_append]; exact upd_same, by rw [List.length_append]; exact Nat.succ_le_succ hml, fun y hy => ?_, nx _ (fun y hy => List.mem_append_left _ hy) fun _ _ => List.mem_append_right _ List.mem_cons_self⟩
          rcases List.mem_append.mp hy with hy | hy
          · exact h1 y hy
          · rw [List.mem_singleton.mp hy]
            exact ⟨em, cb⟩
      · obtain ⟨k2, ms, gD, hml, h1, h2⟩ := hG
        rw [hrl, List.take_length] at h2
        refine ⟨D, ms, rfl, sqL_of gD, by omega, fun p c np hc => ?_⟩
        have kS : ∀ o, Ke G (upd G' p o) := fun o => k2.trans (Ke.new np)
        refine ⟨p, _, c, rfl, upd_same, by omega, fun us p2 up hm hln np2 => ?_⟩
        have k3 := (kS _).trans (Ke.new (o := .lst (us.map V.int)) np2)
        obtain ⟨k3, g2⟩ := Ke.newT k3
        have gl3 := Ke.lst k3 gl
        have hus : ∀ y, y ∈ us ↔ y ∈ ms := fun y => by rw [hm y, decide_eq_true_eq]
        have ndu : us.Nodup := up.imp fun z => by omega
        have nd2 : (R ++ us).Nodup := List.nodup_append.mpr ⟨nd, ndu, fun a ha b hb e => (h1 b ((hus b).mp hb)).2 (e ▸ ha)⟩
        have bd2 : ∀ y ∈ R ++ us, 0 ≤ y ∧ y < n := fun y hy => by
          rcases List.mem_append.mp hy with hy | hy
          · exact bd y hy
          · exact hlb _ _ (h1 y ((hus y).mp hy)).1
        have hln2 : (R ++ us).length ≤ n.toNat := by
          have := nd_le nd2 (m := upTo n) fun x hx => upTo_mem.mpr (bd2 x hx)
          rw [upTo_length] at this
          exact this
        rw [List.length_append] at hln2
        generalize upd (upd G' p _) p2 _ = G4 at *
        refine ⟨l, p2, _, _, rfl, rfl, gl3, g2, by rw [List.length_map, List.length_map]; omega, fun l2 nl2 => ?_⟩
        have k4 := k3.trans (Ke.new (o := .lst (R.map V.int ++ us.map V.int)) nl2)
        refine ⟨_, rfl, _, _, rfl, rfl, (R ++ us, at_ + 1), by show n.toNat - (at_ + 1) < n.toNat - at_; omega, l2, y4, y5, ?_, kG.trans k4, (kG.trans k3).dom l2 nl2, by rw [List.map_append]; exact upd_same, nd2, bd2, fun y hy => ?_, fun y hy => List.mem_append_left _ (bs y hy), fun i hi a b hab hm2 => ?_, by rw [List.length_append]; show at_ + 1 ≤ _; omega⟩
        · rfl
        · rcases List.mem_append.mp hy with hy | hy
          · exact cm y hy
          · exact (cm x (List.mem_of_getElem? hx)).step (h1 y ((hus y).mp hy)).1
        · have hi : i < at_ + 1 := hi
          have iR : i < R.length := by omega
          have hab2 : (R ++ us)[i]? = some a := hab
          rw [List.getElem?_append_left iR] at hab2
          by_cases ci : i < at_
          · exact List.mem_append_left _ (pr i ci a b hab2 hm2)
          · have : i = at_ := by omega
            subst this
            rw [hx] at hab2
            cases hab2
            by_cases cb : b ∈ R
            · exact List.mem_append_left _ cb
            · exact List.mem_append_right _ ((hus b).mpr (h2 b hm2 cb))
    · have hb : ¬ (at_ : Int) < ((R.map V.int).length : Int) := of_decide_eq_false hb
      rw [List.length_map] at hb
      refine ⟨_, rfl, q _ l R kG nl gl ⟨nd, bd, cm, bs, fun x y hx hm => ?_⟩⟩
      obtain ⟨i, hi⟩ := List.getElem?_of_mem hx
      have := (List.getElem?_eq_some_iff.mp hi).1
      exact pr i (by omega) x y hi hm
  · rintro σ G Q1 Q2 hQ ⟨x, hx, y, hy, p, ys, e, hor, i, j, e1, e2, b, hb, h⟩
    exact ⟨x, hx, y, hy, p, ys, e, hor, i, j, e1, e2, b, hb, hQ _ _ h⟩
theorem ok__law_root {P : Program} {w : World} {K : PySem.W.Frag} {mg : Str → Option Value} {base : Heap} {tb : List Addr} {f : Addr} {fd : FuncData} {f__law_next : Addr} {fd__law_next : FuncData} (T : Blt mg) (D__law_root : DefAt K mg "_law_root" s_law_root ["_law_deck_here", "_law_web_here"] f fd) (D__law_next : DefAt K mg "_law_next" s_law_next ["_law_deck_here"] f__law_next fd__law_next) (G__law_next : FnOk P w K mg base CX0 1 f__law_next fd__law_next ["_law_deck_here"] (sp__law_next K tb)) :
    FnOk P w K mg base CX0 2 f fd ["_law_deck_here", "_law_web_here"] (sp__law_root K tb) := by
  refine D__law_root.ok sc__law_root (fun vs H Q E h => by
    obtain ⟨p, v, n, ts, rfl, hd, W, hn0, q⟩ := h
    all_goals rfl) fun A outer s H vs Q E hr h => ?_
  obtain ⟨p, v, n, ts, rfl, hd, W, hn0, q⟩ := h
  refine ⟨_, pss_cons (ps_set (i := 2) sc__law_root.nd rfl (.inl rfl) (pe_call G__law_next (hr.mono (by decide)) (by rfl) D__law_next.g D__law_next.F.kp D__law_next.b .nil pass0 (pa_cons (pv 0) pa_nil)))
     (pss_cons (ps_if (pt_cmpR op_eq (pe_op op_mod (pv 2) (pe_int)) (pe_int) (nomark _))
     (pss_one (ps_ret (pe_op op_mod (pe_op op_fdiv (pv 2) (pe_int)) (pe_ix (ix_tupK (K := K)) (pv 1) (pe_int) (fun _ _ => rfl)))))
     (pss_nil))
     (pss_one (ps_ret (pe_non)))), ?_⟩
  have LB := line_big
  obtain ⟨tw, wu, rs0, rfl, htw, hwu, hTs⟩ := id W
  refine ⟨_, rfl, p, rfl, hd, fun r G r0 r1 k => ?_⟩
  refine ⟨_, rfl, _, _, rfl, rfl, by show (0 : Int) < 3; decide, rfl, _, rfl, iteB (fun _ => ?_) (fun _ => ?_)⟩
  · refine ⟨_, rfl, _, _, rfl, rfl, ⟨by decide, by omega⟩, _, rfl, tw, _, 0, _, rfl, rfl, sqT_of (k.tup hd htw), atI_nat (j := 0) rfl, _, _, rfl, rfl, by show (0 : Int) < n; omega, ?_⟩
    exact q _ _ k (.inr ⟨_, rfl⟩)
  · exact q _ _ k (.inl rfl)
theorem ok__law_root_ways {P : Program} {w : World} {K : PySem.W.Frag} {mg : Str → Option Value} {base : Heap} {tb : List Addr} {f : Addr} {fd : FuncData} {f__law_next : Addr} {fd__law_next : FuncData} (T : Blt mg) (D__law_root_ways : DefAt K mg "_law_root_ways" s_law_root_ways ["_law_deck_here", "_law_web_here", "_law_root_here"] f fd) (D__law_next : DefAt K mg "_law_next" s_law_next ["_law_deck_here"] f__law_next fd__law_next) (G__law_next : FnOk P w K mg base CX0 1 f__law_next fd__law_next ["_law_deck_here"] (sp__law_next K tb)) :
    FnOk P w K mg base CX0 2 f fd ["_law_deck_here", "_law_web_here", "_law_root_here"] (sp__law_root_ways K tb) := by
  refine D__law_root_ways.ok sc__law_root_ways (fun vs H Q E h => by
    obtain ⟨p, v, n, ts, root, rfl, hd, W, hr0, hok, hlen, q⟩ := h
    all_goals rfl) fun A outer s H vs Q E hr h => ?_
  obtain ⟨p, v, n, ts, root, rfl, hd, W, hr0, hok, hlen, q⟩ := h
  refine ⟨_, pss_cons (ps_set (i := 3) sc__law_root_ways.nd rfl (.inl rfl) (pe_lst pa_nil))
     (pss_cons (ps_for PassesOwn.never rfl (pi_tup (pe_ix (ix_tupK (K := K)) (pv 1) (pe_int) (fun _ _ => rfl))) (pg_name (i := 4) sc__law_root_ways.nd rfl (.inl rfl))
     (pss_cons (ps_set (i := 5) sc__law_root_ways.nd rfl (.inl rfl) (pe_ix (ix_tupK (K := K)) (pv 4) (pe_op op_mod (pe_call G__law_next (hr.mono (by decide)) (by rfl) D__law_next.g D__law_next.F.kp D__law_next.b .nil pass0 (pa_cons (pv 0) pa_nil)) (pe_int)) (fun _ _ => rfl)))
     (C8.pss_cut (ps_if (pt_cmpR op_eq (pv 5) (pv 2) (nomark _))
     (pss_one (ps_set (i := 5) sc__law_root_ways.nd rfl (.inl rfl) (pe_op op_sub (pe_op op_add (pe_ix (ix_tupK (K := K)) (pv 4) (pe_int) (fun _ _ => rfl)) (pe_ix (ix_tupK (K := K)) (pv 4) (pe_int) (fun _ _ => rfl))) (pv 5))))
     (pss_nil))
     (pss_one (ps_expr (pe_bm PySem.F.plainAttrs_list PySem.F.slot_list_append PySem.F.type_list_append mt_append (pv 3) (pa_cons (pv 5) pa_nil)))))))
     (pss_one (ps_ret (pe_callTy (tupleF (K := K)) (by rfl) T.b_tuple (by decide +kernel) (pa_cons (pv 3) pa_nil))))), ?_⟩
  have LB := line_big
  obtain ⟨tw, wu, rs0, rfl, htw, hwu, hTs⟩ := id W
  have hrl := hTs.length
  refine ⟨by show 0 ≤ sizeLine; decide, fun D hD => ?_⟩
  have K0 := (Dk.refl hd).new (o := .lst []) hD
  have nDp : D ≠ p := (hd.ne hD).symm
  refine ⟨_, rfl, tw, _, 1, _, rfl, rfl, sqT_of (K0.tup hd htw), atI_nat (j := 1) rfl, wu, rfl, ⟨_, sqT_of (K0.tup hd hwu)⟩, ?_⟩
  refine for_tup (K := K) (a := wu) (xs := rs0) (fun i σ G => ∃ (y4 y5 : Option V) (ws : List Int), σ = [some (.ref p), some (.ref tw), some root, some (.ref D), y4, y5] ∧ Dk p H G ∧ G D = some (.lst (ws.map V.int)) ∧ WOk (ts.take i) ws ∧ ∀ w ∈ ws, V.int w ≠ root) ⟨_, _, [], rfl, K0, upd_same, WOk.nil, fun _ z => nomatch z⟩ (fun i σ G _ hG => ?_) (fun i x σ G hx hG => ?_) (fun σ G hG => ?_)
  · obtain ⟨_, _, _, _, kG, _⟩ := hG
    exact sqT_of (kG.tup hd hwu)
  · obtain ⟨y4, y5, ws, rfl, kG, gD, hw, hne⟩ := hG
    obtain ⟨⟨ta, tb'⟩, qt, hti, rfl, hqt⟩ := hTs.get hx
    obtain ⟨o1, o2, o3⟩ := hok _ (List.mem_of_getElem? hti)
    dsimp only at o1 o2 o3
    refine ⟨_, rfl, _, rfl, p, rfl, kG.d, fun r G1 r0 r1 k1 => ⟨_, _, rfl, rfl, by show (0 : Int) < 2; decide, ?_⟩⟩
    have K1 := kG.trans k1
    have hqt1 := K1.tup hd hqt
    have gD1 := k1.lst gD nDp
    have il := (List.getElem?_eq_some_iff.mp hti).1
    have hwl := hw.1
    rw [List.length_take] at hwl
    obtain ⟨w, hw1, hw2⟩ : ∃ w : Int, atI [V.int ta, .int tb'] (r % 2) = some (.int w) ∧ (w = ta ∨ w = tb') := by
      rcases (by omega : r % 2 = 0 ∨ r % 2 = 1) with e | e
      · exact ⟨ta, by rw [e]; rfl, .inl rfl⟩
      · exact ⟨tb', by rw [e]; rfl, .inr rfl⟩
    have hsc : scal (.int w) root = true := by rcases hr0 with rfl | ⟨i, rfl⟩ <;> rfl
    refine ⟨qt, _, _, _, rfl, rfl, sqT_of hqt1, hw1, ?_⟩
    have fin : ∀ w' : Int, (w' = ta ∨ w' = tb') → V.int w' ≠ root → WOk (ts.take (i + 1)) (ws ++ [w']) ∧ ∀ x ∈ ws ++ [w'], V.int x ≠ root := fun w' h1 h2 => by
      rw [take_next hti]
      refine ⟨hw.snoc h1, fun x hx => ?_⟩
      rcases List.mem_append.mp hx with hx | hx
      · exact hne x hx
      · rw [List.mem_singleton.mp hx]
        exact h2
    refine ⟨fun σ' G => ∃ (w' : Int), σ' = [some (.ref p), some (.ref tw), some root, some (.ref D), some (.ref qt), some (.int w')] ∧ G = G1 ∧ (w' = ta ∨ w' = tb') ∧ V.int w' ≠ root, ?_, fun σ' G hG => ?_⟩
    · refine ⟨_, rfl, _, rfl, hsc, _, rfl, iteB (fun hb => ?_) (fun hb => ?_)⟩
      · have hb : V.int w = root := of_decide_eq_true hb
        refine ⟨_, rfl, qt, _, 0, _, rfl, rfl, sqT_of hqt1, atI_nat (j := 0) rfl, _, rfl, qt, _, 1, _, rfl, rfl, sqT_of hqt1, atI_nat (j := 1) rfl, _, _, rfl, rfl, _, rfl, _, _, rfl, rfl, ?_⟩
        refine ⟨ta + tb' - w, rfl, rfl, by omega, fun z => ?_⟩
        rw [← hb] at z
        have := V.int.inj z
        omega
      · exact ⟨w, rfl, rfl, hw2, of_decide_eq_false hb⟩
    · obtain ⟨w', rfl, rfl, h1, h2⟩ := hG
      obtain ⟨g1, g2⟩ := fin w' h1 h2
      refine ⟨_, rfl, .inl ⟨rfl, _, sqL_of gD1⟩, _, rfl, D, _, _, rfl, rfl, gD1, by rw [List.length_map]; omega, ?_⟩
      exact ⟨_, _, ws ++ [w'], rfl, K1.over hd hD, by rw [List.map_append]; exact upd_same, g1, g2⟩
  · obtain ⟨y4, y5, ws, rfl, kG, gD, hw, hne⟩ := hG
    rw [hrl, List.take_length] at hw
    refine ⟨_, rfl, D, _, rfl, sqL_of gD, fun a ob na ho => ?_⟩
    exact q _ a ws (kG.ke (Ke.new na)) ⟨ob, upd_same, ho⟩ hw hne
theorem ok__law_turned {P : Program} {w : World} {K : PySem.W.Frag} {mg : Str → Option Value} {base : Heap} {tb : List Addr} {f : Addr} {fd : FuncData} (T : Blt mg) (D__law_turned : DefAt K mg "_law_turned" s_law_turned ["_law_web_here", "_law_ways", "_law_start", "_law_end"] f fd) :
    FnOk P w K mg base CX0 1 f fd ["_law_web_here", "_law_ways", "_law_start", "_law_end"] (sp__law_turned K tb) := by
  refine D__law_turned.ok sc__law_turned (fun vs H Q E h => by
    obtain ⟨v, n, ts, a, ws, s, x, rfl, W, ha, hw, hok, hn0, hn1, hlen, hs, hx, q⟩ := h
    all_goals rfl) fun A outer s H vs Q E hr h => ?_
  obtain ⟨v, n, ts, a, ws, s, x, rfl, W, ha, hw, hok, hn0, hn1, hlen, hs, hx, q⟩ := h
  refine ⟨_, pss_cons (ps_set (i := 4) sc__law_turned.nd rfl (.inl rfl) (pe_disp (pps_cons (pv 2) (pe_tup pa_nil) pps_nil) (by rfl) (by rfl) (fun z => by cases z) (by decide)))
     (pss_cons (ps_set (i := 5) sc__law_turned.nd rfl (.inl rfl) (pe_lst (pa_cons (pv 2) pa_nil)))
     (pss_cons (ps_while PassesOwn.never (pt_cmpR (neDK (K := K) hr.units) (pv 5) (pe_lst pa_nil) (nomark _))
     (pss_cons (ps_set (i := 6) sc__law_turned.nd rfl (.inl rfl) (pe_bm0 PySem.F.plainAttrs_list PySem.F.slot_list_pop PySem.F.type_list_pop mt_pop (pv 5)))
     (pss_one (ps_for PassesOwn.never rfl (pi_enumT (K := K) (by rfl) T.b_enumerate (pa_cons (pv 1) pa_nil)) (tgtK (K := K) (n := 2) (pgs_cons (pg_name (i := 7) sc__law_turned.nd rfl (.inl rfl)) (pgs_cons (pg_name (i := 8) sc__law_turned.nd rfl (.inl rfl)) pgs_nil)))
     (pss_cons (ps_set (i := 9) sc__law_turned.nd rfl (.inl rfl) (pe_op op_sub (pe_op op_add (pe_ix (ix_tupK (K := K)) (pe_ix (ix_tupK (K := K)) (pe_ix (ix_tupK (K := K)) (pv 0) (pe_int) (fun _ _ => rfl)) (pv 7) (fun _ _ => rfl)) (pe_int) (fun _ _ => rfl)) (pe_ix (ix_tupK (K := K)) (pe_ix (ix_tupK (K := K)) (pe_ix (ix_tupK (K := K)) (pv 0) (pe_int) (fun _ _ => rfl)) (pv 7) (fun _ _ => rfl)) (pe_int) (fun _ _ => rfl))) (pv 8)))
     (pss_one (ps_if (PW.pt (pw_and (pt_cmpR op_eq (pv 8) (pv 6) (nomark _)) (pw_and1 (pt_cmp (pc_dnotin (hu_of hr) (pv 9) (pv 4)) (by rfl)))))
     (pss_cons (ps_dput (hu_of hr) (pv 4) (pv 9) (pe_op (catU (K := K)) (pe_dget (hu_of hr) (pv 4) (pv 6) (fun _ _ => rfl)) (pe_tup (pa_cons (pv 7) pa_nil))) (by rfl))
     (pss_one (ps_expr (pe_bm PySem.F.plainAttrs_list PySem.F.slot_list_append PySem.F.type_list_append mt_append (pv 5) (pa_cons (pv 9) pa_nil)))))
     (pss_nil))))))))
     (pss_cons (ps_set (i := 10) sc__law_turned.nd rfl (.inl rfl) (pe_callTy (listK (K := K)) (by rfl) T.b_list (by decide +kernel) (pa_cons (pv 1) pa_nil)))
     (pss_cons (ps_for PassesOwn.never rfl (pi_tup (pe_dget (hu_of hr) (pv 4) (pv 3) (fun _ _ => rfl))) (pg_name (i := 7) sc__law_turned.nd rfl (.inl rfl))
     (pss_one (ps_asg (pe_op op_sub (pe_op op_add (pe_ix (ix_tupK (K := K)) (pe_ix (ix_tupK (K := K)) (pe_ix (ix_tupK (K := K)) (pv 0) (pe_int) (fun _ _ => rfl)) (pv 7) (fun _ _ => rfl)) (pe_int) (fun _ _ => rfl)) (pe_ix (ix_tupK (K := K)) (pe_ix (ix_tupK (K := K)) (pe_ix (ix_tupK (K := K)) (pv 0) (pe_int) (fun _ _ => rfl)) (pv 7) (fun _ _ => rfl)) (pe_int) (fun _ _ => rfl))) (pe_ix (ix_tupK (K := K)) (pv 1) (pv 7) (fun _ _ => rfl))) (pg_sub (pv 10) (pv 7) set_list))))
     (pss_one (ps_ret (pe_callTy (tupleF (K := K)) (by rfl) T.b_tuple (by decide +kernel) (pa_cons (pv 10) pa_nil)))))))), ?_⟩
  have LB := line_big
  obtain ⟨tw, uw, rs, rfl, ht, hwu, hT⟩ := id W
  have hrl := hT.length
  have hwl := hw.1
  refine fun d nd => ⟨_, rfl, by show 0 ≤ sizeLine; decide, fun c nc => ?_⟩
  obtain ⟨ncd, ncH⟩ := upd_none nc
  refine ⟨by rw [upd_ne ncd.symm]; exact upd_same, [(Sum.inl s, .ref c)], rfl, by show 1 ≤ 15; decide, ?_⟩
  refine ⟨_, rfl, by show 1 ≤ sizeLine; decide, fun w nw => ?_⟩
  obtain ⟨nwd, nw2⟩ := upd_none nw
  obtain ⟨nwc, nw3⟩ := upd_none nw2
  obtain ⟨_, nwH⟩ := upd_none nw3
  have gd : (upd (upd (upd (upd H d (.dK [])) c (.tup [])) d (.dK (mergeK [] [(Sum.inl s, .ref c)]))) w (.lst [.int s])) d = some (.dK (kvF [(s, c)])) := by
    rw [upd_ne nwd.symm, upd_same]
    rfl
  have gw : (upd (upd (upd (upd H d (.dK [])) c (.tup [])) d (.dK (mergeK [] [(Sum.inl s, .ref c)]))) w (.lst [.int s])) w = some (.lst ([s].map V.int)) := upd_same
  have gc : (upd (upd (upd (upd H d (.dK [])) c (.tup [])) d (.dK (mergeK [] [(Sum.inl s, .ref c)]))) w (.lst [.int s])) c = some (.tup []) := by
    rw [upd_ne nwc.symm, upd_ne ncd, upd_same]
  have kw : Ke H (upd (upd (upd (upd H d (.dK [])) c (.tup [])) d (.dK (mergeK [] [(Sum.inl s, .ref c)]))) w (.lst [.int s])) := (((Ke.new (S := fun _ => False) nd).over ncH).over nd).over nwH
  generalize upd (upd (upd (upd H d _) c _) d _) w _ = G0 at *
  have hS0 : SrT n ts ws s G0 [(s, c)] := SrT.start hs.1 hs.2 gc
  refine while_gh (α := List (Int × Addr) × List Int) (fun α σ G => ∃ (y6 y7 y8 y9 y10 : Option V), σ = [some (.ref tw), some (.ref a), some (.int s), some (.int x), some (.ref d), some (.ref w), y6, y7, y8, y9, y10] ∧ Ke H G ∧ G d = some (.dK (kvF α.1)) ∧ G w = some (.lst (α.2.map V.int)) ∧ SrT n ts ws s G α.1 ∧ (∀ y ∈ α.2, y ∈ α.1.map Prod.fst) ∧ (∀ y ∈ α.1.map Prod.fst, y ∉ α.2 → ∀ z, (y, z) ∈ leadsF ts ws → z ∈ α.1.map Prod.fst) ∧ α.2.length ≤ 2 * α.1.length) (fun α => α.2.length + 2 * (n.toNat - α.1.length)) ([(s, c)], [s]) ?_ (fun α σ G hW => ?_) ?_
  · exact ⟨_, _, _, _, _, rfl, kw, gd, gw, hS0, fun x hx => hx, fun x hx hx2 => absurd hx hx2, by show 1 ≤ 2; decide⟩
  · obtain ⟨fl, wt⟩ := α
    obtain ⟨y6, y7, y8, y9, y10, rfl, kG, gdG, gwG, sG, hwt, hcl, hwtl⟩ := hW
    dsimp only at gdG gwG sG hwt hcl hwtl ⊢
    refine ⟨_, rfl, by show 0 ≤ sizeLine; decide, fun z nz => ?_⟩
    refine ⟨.list (wt.map PyData.int), .list [], .lst (sqL_of (lst_new nz gwG)) (dp_ints wt), .lst (sqL_of upd_same) .nil, PySem.W.shaped_ints wt, PySem.W.shaped_ints [], _, rfl, iteB (fun ee => ?_) (fun ee => ?_)⟩
    · have ew := eqv_nil ee
      obtain ⟨wd, pt, rfl⟩ : ∃ wd pt, wt = wd ++ [pt] := ⟨wt.dropLast, wt.getLast ew, (List.dropLast_concat_getLast ew).symm⟩
      have hlast : ((wd ++ [pt]).map V.int)[((wd ++ [pt]).map V.int).length - 1]? = some (.int pt) := by
        rw [List.length_map, List.length_append, List.map_append, List.getElem?_append_right (by rw [List.length_map]; exact Nat.le_refl _), List.length_map]
        show [V.int pt][wd.length + 1 - 1 - wd.length]? = _
        rw [show wd.length + 1 - 1 - wd.length = 0 by omega]
        rfl
      have hdr : ((wd ++ [pt]).map V.int).dropLast = wd.map V.int := by rw [List.map_append]; exact List.dropLast_concat
      have hdl : (wd ++ [pt]).length = wd.length + 1 := by rw [List.length_append]; rfl
      have gw1 := lst_new (o := .lst []) nz gwG
      have nzd : z ≠ d := (ne_of_none gdG nz).symm
      have nwd2 : w ≠ d := ne_of gwG gdG (fun z => nomatch z)
      refine ⟨_, rfl, .inl ⟨rfl, _, sqL_of gw1⟩, w, _, _, rfl, rfl, gw1, hlast, ?_⟩
      rw [hdr]
      have k1 : Ke H (upd (upd G z (.lst [])) w (.lst (wd.map V.int))) := (kG.over (kG.dom _ nz)).over nwH
      have gd1 : (upd (upd G z (.lst [])) w (.lst (wd.map V.int))) d = some (.dK (kvF fl)) := by rw [upd_ne nwd2.symm, upd_ne nzd.symm]; exact gdG
      have gw2 : (upd (upd G z (.lst [])) w (.lst (wd.map V.int))) w = some (.lst (wd.map V.int)) := upd_same
      have s1 : SrT n ts ws s (upd (upd G z (.lst [])) w (.lst (wd.map V.int))) fl := sG.ke fun q xs e => by rw [upd_ne (ne_of (tup_new nz e) gw1 (fun z => nomatch z))]; exact tup_new nz e
      generalize upd (upd G z _) w _ = G1 at *
      have hpt : pt ∈ fl.map Prod.fst := hwt pt (List.mem_append_right _ List.mem_cons_self)
      have hpr := sG.rng pt hpt
      have hfl0 := sG.len
      refine ⟨_, rfl, a, _, rfl, (ha.ke k1).sq, ?_⟩
      refine for_it (walk_enumT (K := K) (a := a) (xs := ws.map V.int)) (fun jj σ G => ∃ (y7 y8 y9 y10 : Option V) (fl2 : List (Int × Addr)) (wt2 : List Int), σ = [some (.ref tw), some (.ref a), some (.int s), some (.int x), some (.ref d), some (.ref w), some (.int pt), y7, y8, y9, y10] ∧ Ke H G ∧ G d = some (.dK (kvF fl2)) ∧ G w = some (.lst (wt2.map V.int)) ∧ SrT n ts ws s G fl2 ∧ (∀ x ∈ wt2, x ∈ fl2.map Prod.fst) ∧ (∀ y ∈ fl2.map Prod.fst, y ∉ wt2 → y ≠ pt → ∀ z, (y, z) ∈ leadsF ts ws → z ∈ fl2.map Prod.fst) ∧ pt ∈ fl2.map Prod.fst ∧ (∀ (m : Nat) (t : Int × Int), m < jj → ts[m]? = some t → ws[m]? = some pt → oE t pt ∈ fl2.map Prod.fst) ∧ wt2.length ≤ 2 * fl2.length ∧ wt2.length + 2 * (n.toNat - fl2.length) ≤ wd.length + 2 * (n.toNat - fl.length)) ⟨_, _, _, _, fl, wd, rfl, k1, gd1, gw2, s1, fun x hx => hwt x (List.mem_append_left _ hx), fun x hx h1 h2 => hcl x hx fun z => (List.mem_append.mp z).elim h1 fun z => h2 (List.mem_singleton.mp z), hpt, fun m t h0 => absurd h0 (Nat.not_lt_zero _), by omega, Nat.le_refl _⟩ (fun jj σ G _ hG => ?_) (fun jj x σ G G' hj hG hy => ?_) (fun σ G hG => ?_)
      · obtain ⟨_, _, _, _, _, _, _, k, _⟩ := hG
        exact (ha.ke k).sq
      · obtain ⟨y7, y8, y9, y10, fl2, wt2, rfl, k2, gd2, gw2', s2, hwt2, hcl2, hpt2, hpre, hl1, hl2⟩ := hG
        obtain ⟨T1, z1, z2, rfl, nT, rfl, e1, e2⟩ := hy
        have e1 : some (V.int (jj : Int)) = some z1 := e1
        cases e1
        obtain ⟨o0, hwj, rfl⟩ := int_at e2
        rw [List.length_map] at hj
        have jl : jj < ts.length := by omega
        obtain ⟨tt, qq, htj, hrj, hq⟩ := hT.get (List.getElem?_eq_getElem (show jj < rs.length by omega))
        have tok := hw.other hok htj hwj
        refine ⟨T1, _, rfl, sqT_of upd_same, rfl, _, _, rfl, _, [], rfl, rfl, ?_⟩
        have k3 : Ke H (upd G T1 (.tup [.int (jj : Int), .int o0])) := k2.trans (Ke.new nT)
        have gd3 : (upd G T1 (.tup [.int (jj : Int), .int o0])) d = some (.dK (kvF fl2)) := by rw [upd_ne (ne_of_none gd2 nT)]; exact gd2
        have gw3 := lst_new (o := .tup [.int (jj : Int), .int o0]) nT gw2'
        have s3 := s2.ke fun q xs e => tup_new (o := .tup [.int (jj : Int), .int o0]) nT e
        generalize upd G T1 _ = G3 at *
        have pre : ∀ K : List Int, (∀ x ∈ fl2.map Prod.fst, x ∈ K) → (o0 = pt → oE tt pt ∈ K) → ∀ (m : Nat) (t : Int × Int), m < jj + 1 → ts[m]? = some t → ws[m]? = some pt → oE t pt ∈ K := fun K hK h1 m t hm h2 h3 => by
          by_cases c : m < jj
          · exact hK _ (hpre m t c h2 h3)
          · have em : m = jj := by omega
            subst em
            rw [htj] at h2
            cases h2
            rw [hwj] at h3
            exact h1 (Option.some.inj h3)
        have hq3 := Ke.tup k3 hq
        have ht3 := Ke.tup k3 ht
        have hw3 := Ke.tup k3 hwu
        have hrx : rs[jj]? = some (.ref qq) := by rw [List.getElem?_eq_getElem (show jj < rs.length by omega), hrj]
        refine ⟨_, rfl, tw, _, 1, _, rfl, rfl, sqT_of ht3, atI_nat (j := 1) rfl, _, rfl, uw, _, _, _, rfl, rfl, sqT_of hw3, atI_nat hrx, qq, _, 0, _, rfl, rfl, sqT_of hq3, atI_nat (j := 0) rfl, ?_⟩
        refine ⟨_, rfl, tw, _, 1, _, rfl, rfl, sqT_of ht3, atI_nat (j := 1) rfl, _, rfl, uw, _, _, _, rfl, rfl, sqT_of hw3, atI_nat hrx, qq, _, 1, _, rfl, rfl, sqT_of hq3, atI_nat (j := 1) rfl, _, _, rfl, rfl, _, rfl, _, _, rfl, rfl, ?_⟩
        refine ⟨_, rfl, _, rfl, rfl, _, rfl, ?_⟩
        by_cases co : o0 = pt
        rotate_left
        · rw [decide_eq_false (fun z => co (V.int.inj z))]
          refine (if_neg Bool.false_ne_true).mpr (iteF ?_)
          exact ⟨_, _, _, _, fl2, wt2, rfl, k3, gd3, gw3, s3, hwt2, hcl2, hpt2, pre _ (fun _ z => z) (fun z => absurd z co), hl1, hl2⟩
        subst co
        rw [decide_eq_true rfl]
        refine (if_pos rfl).mpr ?_
        have gdx := DGet.k (k := Sum.inl (oE tt o0)) gd3
        refine ⟨_, rfl, _, rfl, d, _, rfl, gdx, _, rfl, ?_⟩
        by_cases hin : oE tt o0 ∈ fl2.map Prod.fst
        · obtain ⟨_, _, _, ev, _⟩ := s3.at_ hin
          rw [ev]
          refine iteF ?_
          exact ⟨_, _, _, _, fl2, wt2, rfl, k3, gd3, gw3, s3, hwt2, hcl2, hpt2, pre _ (fun _ z => z) (fun _ => hin), hl1, hl2⟩
        rw [val_out hin]
        refine iteT ?_
        obtain ⟨c', es, ps, ev, gc', wl, hpsl, hll⟩ := s3.at_ hpt2
        have hfl2 := s3.len
        refine ⟨_, rfl, _, rfl, d, .ref c', rfl, by rw [← ev]; exact DGet.k (k := Sum.inl o0) gd3, _, rfl, by show 1 ≤ sizeLine; decide, fun c1 nc1 => ?_⟩
        refine ⟨c', c1, _, _, rfl, rfl, tup_new nc1 gc', upd_same, by rw [List.length_map]; show es.length + 1 ≤ sizeLine; omega, fun c2 G4 k4 hc2 => ?_⟩
        have k5 := (Ke.new (o := .tup [.int (jj : Int)]) nc1).trans k4
        have gd4 : G4 d = some (.dK (kvF fl2)) := k5.at_ _ _ gd3 (fun _ z => nomatch z) (fun z => z)
        have gw4 := Ke.lst k5 gw3
        have s4 := s3.ke fun q xs e => Ke.tup k5 e
        refine ⟨_, rfl, _, rfl, d, _, rfl, DPut.k (k := Sum.inl (oE tt o0)) gd4 (by rw [kvF_length]; omega), ?_⟩
        rw [put_out hin]
        have gw5 : (upd G4 d (.dK (kvF (fl2 ++ [(oE tt o0, c2)])))) w = some (.lst (wt2.map V.int)) := by rw [upd_ne nwd2]; exact gw4
        refine ⟨_, rfl, .inl ⟨rfl, _, sqL_of gw5⟩, _, rfl, w, _, _, rfl, rfl, gw5, by rw [List.length_map]; omega, ?_⟩
        have ek : (fl2 ++ [(oE tt o0, c2)]).map Prod.fst = fl2.map Prod.fst ++ [oE tt o0] := by rw [List.map_append]; rfl
        have el : (fl2 ++ [(oE tt o0, c2)]).length = fl2.length + 1 := by rw [List.length_append]; rfl
        have el2 : (wt2 ++ [oE tt o0]).length = wt2.length + 1 := by rw [List.length_append]; rfl
        have s5 : SrT n ts ws s G4 (fl2 ++ [(oE tt o0, c2)]) := s4.add hpt2 wl hpsl hll htj hwj hin tok.2.2 (by rw [List.map_append]; exact hc2)
        have hl5 := s5.len
        refine ⟨_, _, _, _, fl2 ++ [(oE tt o0, c2)], wt2 ++ [oE tt o0], rfl, ((k3.trans k5).over nd).over nwH, by rw [upd_ne nwd2.symm]; exact upd_same, by rw [List.map_append]; exact upd_same, s5.ke fun q xs e => ?_, fun x hx => ?_, fun y hy h1 h2 z hz => ?_, ?_, ?_, by rw [el, el2]; omega, by rw [el, el2]; omega⟩
        · have e' : (upd G4 d (.dK (kvF (fl2 ++ [(oE tt o0, c2)])))) q = some (.tup xs) := by rw [upd_ne (ne_of e gd4 (fun z => nomatch z))]; exact e
          rw [upd_ne (ne_of e' gw5 (fun z => nomatch z))]
          exact e'
        · rw [ek]
          rcases List.mem_append.mp hx with hx | hx
          · exact List.mem_append_left _ (hwt2 x hx)
          · exact List.mem_append_right _ hx
        · rw [ek] at hy ⊢
          rcases List.mem_append.mp hy with hy | hy
          · exact List.mem_append_left _ (hcl2 y hy (fun z => h1 (List.mem_append_left _ z)) h2 z hz)
          · exact absurd (List.mem_append_right _ hy) h1
        · rw [ek]
          exact List.mem_append_left _ hpt2
        · rw [ek]
          exact pre _ (fun x hx => List.mem_append_left _ hx) fun _ => List.mem_append_right _ List.mem_cons_self
      · obtain ⟨y7, y8, y9, y10, fl2, wt2, rfl, k2, gd2, gw2', s2, hwt2, hcl2, hpt2, hpre, hl1, hl2⟩ := hG
        refine ⟨(fl2, wt2), by show wt2.length + 2 * (n.toNat - fl2.length) < (wd ++ [pt]).length + 2 * (n.toNat - fl.length); omega, _, _, _, _, _, rfl, k2, gd2, gw2', s2, hwt2, fun y hy h1 z hz => ?_, hl1⟩
        by_cases c : y = pt
        · subst c
          obtain ⟨i, t, h1', h2', rfl⟩ := leads_mem.mp hz
          rw [List.length_map] at hpre
          exact hpre i t (List.getElem?_eq_some_iff.mp h2').1 h1' h2'
        · exact hcl2 y hy h1 c z hz
    · have ew : wt = [] := by
        cases wt with
        | nil => rfl
        | cons x r => simp [PyData.eqv, PyData.eqvAll] at ee
      subst ew
      have gd1 : (upd G z (.lst [])) d = some (.dK (kvF fl)) := by rw [upd_ne (ne_of_none gdG nz)]; exact gdG
      have kz := kG.trans (Ke.new (o := .lst []) nz)
      have s1 := sG.ke fun q xs e => tup_new (o := .lst []) nz e
      have hxin : x ∈ fl.map Prod.fst := hx.mem (fun y hy z hz => hcl y hy (fun z => nomatch z) z hz) fun y hy => by rw [List.mem_singleton.mp hy]; exact sG.first
      obtain ⟨c', es, ps, ev, gc', wl, hpsl, hll⟩ := s1.at_ hxin
      clear hcl hwt sG gwG gdG
      generalize upd G z (.lst []) = G2 at *
      refine ⟨_, rfl, a, _, rfl, .inr (ha.ke kz).sq, fun l nl => ?_⟩
      have kl := Ke.new (S := fun _ => False) (o := .lst (ws.map V.int)) nl
      have gl : (upd G2 l (.lst (ws.map V.int))) l = some (.lst (ws.map V.int)) := upd_same
      have nHl : H l = none := kz.dom l nl
      have kA := kz.trans kl
      have gd2 : (upd G2 l (.lst (ws.map V.int))) d = some (.dK (kvF fl)) := by rw [upd_ne (ne_of_none gd1 nl)]; exact gd1
      have gc2 := Ke.tup kl gc'
      have ncl : c' ≠ l := fun z => by rw [z, nl] at gc'; cases gc'
      generalize upd G2 l _ = G3 at *
      obtain ⟨inv1, inv2⟩ := wl.inv
      refine ⟨_, rfl, _, rfl, d, .ref c', rfl, by rw [← ev]; exact DGet.k (k := Sum.inl x) gd2, c', rfl, ⟨_, sqT_of gc2⟩, ?_⟩
      refine for_tup (K := K) (a := c') (xs := es.map V.int) (fun i σ G => ∃ (y7 : Option V), σ = [some (.ref tw), some (.ref a), some (.int s), some (.int x), some (.ref d), some (.ref w), y6, y7, y8, y9, some (.ref l)] ∧ Ke H G ∧ G l = some (.lst ((turnL ts ws (es.take i)).map V.int)) ∧ G c' = some (.tup (es.map V.int))) ⟨_, rfl, kA, gl, gc2⟩ (fun i σ G _ hG => ?_) (fun i y σ G hy hG => ?_) (fun σ G hG => ?_)
      · obtain ⟨_, _, _, _, g⟩ := hG
        exact sqT_of g
      · obtain ⟨y7, rfl, kG, gl2, gcG⟩ := hG
        obtain ⟨e, hei, rfl⟩ := int_at hy
        obtain ⟨j, rfl, jl, wv, hwv, hwj⟩ := inv2 e (List.mem_of_getElem? hei)
        obtain ⟨tt, qq, htj, hrj, hq⟩ := hT.get (List.getElem?_eq_getElem (show j < rs.length by omega))
        have hq3 := Ke.tup kG hq
        have ht3 := Ke.tup kG ht
        have hw3 := Ke.tup kG hwu
        have hrx : rs[j]? = some (.ref qq) := by rw [List.getElem?_eq_getElem (show j < rs.length by omega), hrj]
        refine ⟨_, rfl, tw, _, 1, _, rfl, rfl, sqT_of ht3, atI_nat (j := 1) rfl, _, rfl, uw, _, _, _, rfl, rfl, sqT_of hw3, atI_nat hrx, qq, _, 0, _, rfl, rfl, sqT_of hq3, atI_nat (j := 0) rfl, ?_⟩
        refine ⟨_, rfl, tw, _, 1, _, rfl, rfl, sqT_of ht3, atI_nat (j := 1) rfl, _, rfl, uw, _, _, _, rfl, rfl, sqT_of hw3, atI_nat hrx, qq, _, 1, _, rfl, rfl, sqT_of hq3, atI_nat (j := 1) rfl, _, _, rfl, rfl, ?_⟩
        refine ⟨_, rfl, _, rfl, a, _, _, _, rfl, rfl, (ha.ke kG).sq, atI_nat (v := .int wv) (by rw [List.getElem?_map, hwj]; rfl), _, _, rfl, rfl, ?_⟩
        have hlen3 := turnL_len (ts := ts) (ws := ws) (es.take i)
        refine ⟨_, rfl, _, rfl, l, _, _, j, rfl, rfl, gl2, by rw [List.length_map]; exact ix_nat (by omega), ?_⟩
        have etk : tk ts (j : Int) = tt := by
          show ts.getD ((j : Int)).toNat (0, 0) = _
          rw [Int.toNat_natCast, List.getD_eq_getElem?_getD, htj]
          rfl
        have egd : ws.getD j 0 = wv := by rw [List.getD_eq_getElem?_getD, hwj]; rfl
        refine ⟨_, rfl, kG.over nHl, ?_, by rw [upd_ne ncl]; exact gcG⟩
        rw [take_next hei, turnL_snoc, Int.toNat_natCast, etk, egd, upd_same, List.map_set]
        rfl
      · obtain ⟨y7, rfl, kG, gl2, gcG⟩ := hG
        rw [List.length_map, List.take_length] at gl2
        obtain ⟨t1, t2⟩ := wl.turn hok hw
        refine ⟨_, rfl, l, _, rfl, sqL_of gl2, fun b ob nb ho => ?_⟩
        exact q _ b _ (kG.trans (Ke.new nb)) ⟨ob, upd_same, ho⟩ t1 t2
  · rintro σ G Q1 Q2 hQ ⟨x, hx, hb, h⟩
    refine ⟨x, hx, hb, fun z nz => ?_⟩
    obtain ⟨d, e, h1, h2, h3, h4, k, hk, hq⟩ := h z nz
    exact ⟨d, e, h1, h2, h3, h4, k, hk, hQ _ _ hq⟩
theorem ok__law_evened {P : Program} {w : World} {K : PySem.W.Frag} {mg : Str → Option Value} {base : Heap} {tb : List Addr} {f : Addr} {fd : FuncData} {f__law_outs : Addr} {fd__law_outs : FuncData} {f__law_leads : Addr} {fd__law_leads : FuncData} {f__law_come_to : Addr} {fd__law_come_to : FuncData} {f__law_turned : Addr} {fd__law_turned : FuncData} (T : Blt mg) (D__law_evened : DefAt K mg "_law_evened" s_law_evened ["_law_web_here", "_law_root_here", "_law_ways"] f fd) (D__law_outs : DefAt K mg "_law_outs" s_law_outs ["_law_web_here", "_law_ways"] f__law_outs fd__law_outs) (G__law_outs : FnOk P w K mg base CX0 1 f__law_outs fd__law_outs ["_law_web_here", "_law_ways"] (sp__law_outs K tb)) (D__law_leads : DefAt K mg "_law_leads" s_law_leads ["_law_web_here", "_law_ways"] f__law_leads fd__law_leads) (G__law_leads : FnOk P w K mg base CX0 1 f__law_leads fd__law_leads ["_law_web_here", "_law_ways"] (sp__law_leads K tb)) (D__law_come_to : DefAt K mg "_law_come_to" s_law_come_to ["_law_leads_here", "_law_starts"] f__law_come_to fd__law_come_to) (G__law_come_to : FnOk P w K mg base CX0 1 f__law_come_to fd__law_come_to ["_law_leads_here", "_law_starts"] (sp__law_come_to K tb)) (D__law_turned : DefAt K mg "_law_turned" s_law_turned ["_law_web_here", "_law_ways", "_law_start", "_law_end"] f__law_turned fd__law_turned) (G__law_turned : FnOk P w K mg base CX0 1 f__law_turned fd__law_turned ["_law_web_here", "_law_ways", "_law_start", "_law_end"] (sp__law_turned K tb)) :
    FnOk P w K mg base CX0 2 f fd ["_law_web_here", "_law_root_here", "_law_ways"] (sp__law_evened K tb) := by
  refine D__law_evened.ok sc__law_evened (fun vs H Q E h => by
    obtain ⟨v, n, ts, root, a, ws, rfl, W, hr0, ha, hw, hne, hok, hn0, hn1, hlen, q⟩ := h
    all_goals rfl) fun A outer s H vs Q E hr h => ?_
  obtain ⟨v, n, ts, root, a, ws, rfl, W, hr0, ha, hw, hne, hok, hn0, hn1, hlen, q⟩ := h
  refine ⟨_, pss_cons (ps_set (i := 3) sc__law_evened.nd rfl (.inl rfl) (pe_call G__law_outs (hr.mono (by decide)) (by rfl) D__law_outs.g D__law_outs.F.kp D__law_outs.b .nil pass0 (pa_cons (pv 0) (pa_cons (pv 2) pa_nil))))
     (pss_cons (ps_for PassesOwn.never rfl (pi_range1 (by rfl) T.b_range (pa_cons (pe_ix (ix_tupK (K := K)) (pv 0) (pe_int) (fun _ _ => rfl)) pa_nil)) (pg_name (i := 4) sc__law_evened.nd rfl (.inl rfl))
     (pss_one (ps_for PassesOwn.never rfl (pi_range1 (by rfl) T.b_range (pa_cons (pe_callB (lenK (K := K)) (by rfl) T.b_len PySem.boot_len (pa_cons (pv 2) pa_nil)) pa_nil)) (pg_name (i := 5) sc__law_evened.nd rfl (.inl rfl))
     (pss_one (ps_if (pt_cmpR op_eq (pe_ix (ix_tupK (K := K)) (pv 2) (pv 5) (fun _ _ => rfl)) (pv 4) (nomark _))
     (pss_cons (ps_set (i := 6) sc__law_evened.nd rfl (.inl rfl) (pe_op op_sub (pe_op op_add (pe_ix (ix_tupK (K := K)) (pe_ix (ix_tupK (K := K)) (pe_ix (ix_tupK (K := K)) (pv 0) (pe_int) (fun _ _ => rfl)) (pv 5) (fun _ _ => rfl)) (pe_int) (fun _ _ => rfl)) (pe_ix (ix_tupK (K := K)) (pe_ix (ix_tupK (K := K)) (pe_ix (ix_tupK (K := K)) (pv 0) (pe_int) (fun _ _ => rfl)) (pv 5) (fun _ _ => rfl)) (pe_int) (fun _ _ => rfl))) (pv 4)))
     (pss_one (ps_if (PW.pt (pw_and (pt_cmpR op_ne (pv 6) (pv 1) (nomark _)) (pw_and1 (pt_cmpR op_le (pe_op op_add (pe_ix (ix_tupK (K := K)) (pv 3) (pv 6) (fun _ _ => rfl)) (pe_int)) (pe_ix (ix_tupK (K := K)) (pv 3) (pv 4) (fun _ _ => rfl)) (nomark _)))))
     (pss_one (ps_ret (pe_op (catF (K := K)) (pe_op (catF (K := K)) (pe_slice (sl_tupF (K := K)) (pv 2) po_none (po_some (pv 5))) (pe_tupF (pa_cons (pv 6) pa_nil))) (pe_slice (sl_tupF (K := K)) (pv 2) (po_some (pe_op op_add (pv 5) (pe_int))) po_none))))
     (pss_nil))))
     (pss_nil))))))
     (pss_cons (ps_set (i := 7) sc__law_evened.nd rfl (.inl rfl) (pe_call G__law_leads (hr.mono (by decide)) (by rfl) D__law_leads.g D__law_leads.F.kp D__law_leads.b .nil pass0 (pa_cons (pv 0) (pa_cons (pv 2) pa_nil))))
     (pss_cons (ps_for PassesOwn.never rfl (pi_range1 (by rfl) T.b_range (pa_cons (pe_ix (ix_tupK (K := K)) (pv 0) (pe_int) (fun _ _ => rfl)) pa_nil)) (pg_name (i := 4) sc__law_evened.nd rfl (.inl rfl))
     (pss_one (ps_for PassesOwn.never rfl (pi_list (pe_call G__law_come_to (hr.mono (by decide)) (by rfl) D__law_come_to.g D__law_come_to.F.kp D__law_come_to.b .nil pass0 (pa_cons (pv 7) (pa_cons (pe_lst (pa_cons (pv 4) pa_nil)) pa_nil)))) (pg_name (i := 8) sc__law_evened.nd rfl (.inl rfl))
     (pss_one (ps_if (PW.pt (pw_and (pt_cmpR op_ne (pv 8) (pv 1) (nomark _)) (pw_and1 (pt_cmpR op_le (pe_op op_add (pe_ix (ix_tupK (K := K)) (pv 3) (pv 8) (fun _ _ => rfl)) (pe_int)) (pe_ix (ix_tupK (K := K)) (pv 3) (pv 4) (fun _ _ => rfl)) (nomark _)))))
     (pss_one (ps_ret (pe_call G__law_turned (hr.mono (by decide)) (by rfl) D__law_turned.g D__law_turned.F.kp D__law_turned.b .nil pass0 (pa_cons (pv 0) (pa_cons (pv 2) (pa_cons (pv 4) (pa_cons (pv 8) pa_nil)))))))
     (pss_nil))))))
     (pss_one (ps_ret (pe_non)))))), ?_⟩
  have LB := line_big
  have q1 : ∀ H', Ke H H' → EvenR n ts root ws → Q .non H' := fun H' k e => q H' .non k (.inl ⟨rfl, e⟩)
  have q2 : ∀ (H' : Hp) (b : Addr) (us : List Int), Ke H H' → TF H' b (us.map V.int) → WOk ts us → (∀ w ∈ us, V.int w ≠ root) → sqO n us < sqO n ws → Q (.ref b) H' := fun H' b us k h1 h2 h3 h4 => q H' _ k (.inr ⟨b, us, rfl, h1, h2, h3, h4⟩)
  obtain ⟨tw, w0, rs0, rfl, htw, hw0, hTs⟩ := id W
  have hrl := hTs.length
  have hwl := hw.1
  have hol := outsL_length n ws
  have hat : ∀ p : Int, 0 ≤ p → p < n → atI ((outsL n ws).map V.int) p = some (.int (ws.count p : Int)) := fun p p0 p1 => by rw [hat_at p0 (by omega), outsL_hat p0 p1]
  refine ⟨_, rfl, _, rfl, .ref tw, n, ts, a, ws, rfl, W, by omega, by omega, ha, fun H1 o1 k1 ho1 => ?_⟩
  refine ⟨_, rfl, tw, _, 0, _, rfl, rfl, sqT_of (k1.tup htw), atI_nat (j := 0) rfl, _, rfl, by omega, by omega, ?_⟩
  refine for_range (lo := 0) (n := n.toNat) (fun i σ G => ∃ (y4 y5 y6 y7 y8 : Option V), σ = [some (.ref tw), some root, some (.ref a), some (.ref o1), y4, y5, y6, y7, y8] ∧ Ke H1 G) ⟨_, _, _, _, _, rfl, .refl⟩ (fun i σ G hi hG => ?_) (fun σ G hG => ?_)
  · obtain ⟨y4, y5, y6, y7, y8, rfl, kG⟩ := hG
    have kA := k1.trans kG
    refine ⟨_, rfl, a, _, rfl, .inr (ha.ke kA).sq, _, rfl, by rw [List.length_map]; omega, by rw [List.length_map]; omega, ?_⟩
    refine for_range (lo := 0) (n := (ws.map V.int).length) (fun j σ G' => ∃ (y5 y6 y7 y8 : Option V), σ = [some (.ref tw), some root, some (.ref a), some (.ref o1), some (.int (0 + (i : Int))), y5, y6, y7, y8] ∧ Ke G G') ⟨_, _, _, _, rfl, .refl⟩ (fun j σ G' hj hG => ?_) (fun σ G' hG => ?_)
    · obtain ⟨y5, y6, y7, y8, rfl, kj⟩ := hG
      have kB := kA.trans kj
      rw [List.length_map] at hj
      have e0 : (0 : Int) + (i : Int) = (i : Int) := Int.zero_add _
      have e1 : (0 : Int) + (j : Int) = (j : Int) := Int.zero_add _
      rw [e0, e1]
      have hwj : ws[j]? = some (ws[j]'hj) := List.getElem?_eq_getElem hj
      generalize ws[j]'hj = w at hwj
      obtain ⟨tt, qq, htj, hrj, hq⟩ := hTs.get (List.getElem?_eq_getElem (show j < rs0.length by omega))
      have hq3 := Ke.tup kB hq
      have ht3 := Ke.tup kB htw
      have hw3 := Ke.tup kB hw0
      have hrx : rs0[j]? = some (.ref qq) := by rw [List.getElem?_eq_getElem (show j < rs0.length by omega), hrj]
      refine ⟨_, rfl, _, rfl, a, _, _, _, rfl, rfl, (ha.ke kB).sq, atI_nat (v := .int w) (by rw [List.getElem?_map, hwj]; rfl), _, rfl, rfl, _, rfl, iteB (fun hb => ?_) (fun hb => ?_)⟩
      · have hb : V.int w = V.int (i : Int) := of_decide_eq_true hb
        have hb : w = (i : Int) := V.int.inj hb
        subst hb
        refine ⟨_, rfl, tw, _, 1, _, rfl, rfl, sqT_of ht3, atI_nat (j := 1) rfl, _, rfl, w0, _, _, _, rfl, rfl, sqT_of hw3, atI_nat hrx, qq, _, 0, _, rfl, rfl, sqT_of hq3, atI_nat (j := 0) rfl, ?_⟩
        refine ⟨_, rfl, tw, _, 1, _, rfl, rfl, sqT_of ht3, atI_nat (j := 1) rfl, _, rfl, w0, _, _, _, rfl, rfl, sqT_of hw3, atI_nat hrx, qq, _, 1, _, rfl, rfl, sqT_of hq3, atI_nat (j := 1) rfl, _, _, rfl, rfl, _, rfl, _, _, rfl, rfl, ?_⟩
        have tok := hw.other hok htj hwj
        have hin : (0 : Int) ≤ (i : Int) ∧ (i : Int) < n := hw.bd hok _ (List.mem_of_getElem? hwj)
        have hsc : scal (.int (oE tt (i : Int))) root = true := by rcases hr0 with rfl | ⟨i, rfl⟩ <;> rfl
        refine ⟨_, rfl, _, rfl, hsc, _, rfl, ?_⟩
        show (if (!decide (V.int (oE tt (i : Int)) = root)) = true then _ else _)
        by_cases cr : V.int (oE tt (i : Int)) = root
        · rw [decide_eq_true cr]
          refine (if_neg (by decide)).mpr ?_
          exact iteF ⟨_, _, _, _, rfl, kj⟩
        rw [decide_eq_false cr]
        refine (if_pos (by decide)).mpr ?_
        have hoG := Ke.tup (kG.trans kj) ho1
        refine ⟨_, rfl, _, rfl, o1, _, _, _, rfl, rfl, sqT_of hoG, hat _ tok.2.2.1 tok.2.2.2, _, _, rfl, rfl, _, rfl, _, rfl, o1, _, _, _, rfl, rfl, sqT_of hoG, hat _ hin.1 hin.2, _, _, rfl, rfl, _, rfl, iteB (fun hb => ?_) (fun hb => ?_)⟩
        · have hb : (ws.count (oE tt (i : Int)) : Int) + 2 ≤ (ws.count (i : Int) : Int) := of_decide_eq_true hb
          refine ⟨_, rfl, _, rfl, _, rfl, a, _, rfl, ha.ke kB, fun c1 E1 f1 t1 => ?_⟩
          rw [cut_to] at t1
          refine ⟨_, rfl, by show 1 ≤ sizeLine; decide, fun c2 E2 n2 f2 t2 => ?_⟩
          refine ⟨c1, c2, _, _, rfl, rfl, t1.ke f2, t2, by rw [List.length_take, List.length_map]; show _ + 1 ≤ sizeLine; omega, fun c3 E3 f3 t3 => ?_⟩
          have f13 := (f1.trans f2).trans f3
          refine ⟨_, rfl, _, rfl, _, _, rfl, rfl, _, rfl, a, _, rfl, (ha.ke kB).ke f13, fun c4 E4 f4 t4 => ?_⟩
          rw [cut_from' _ (by omega)] at t4
          refine ⟨c3, c4, _, _, rfl, rfl, t3.ke f4, t4, by rw [List.length_append, List.length_take, List.length_drop, List.length_map]; show _ + 1 + _ ≤ sizeLine; omega, fun c5 E5 f5 t5 => ?_⟩
          have eu : (ws.map V.int).take j ++ [V.int (tt.1 + tt.2 - (i : Int))] ++ (ws.map V.int).drop ((j : Int) + 1).toNat = (ws.set j (oE tt (i : Int))).map V.int := by
            rw [List.set_eq_take_append_cons_drop, if_pos (by omega), List.map_append, List.map_cons, List.map_take, List.map_drop, show ((j : Int) + 1).toNat = j + 1 by omega, List.append_assoc]
            rfl
          rw [eu] at t5
          have kE := (f13.trans f4).trans f5
          have hwu : WOk ts (ws.set j (oE tt (i : Int))) := ⟨by rw [List.length_set]; exact hwl, fun m t' w' p1 p2 => by
            by_cases ci : m = j
            · rw [ci] at p1 p2
              rw [List.getElem?_set_self hj] at p2
              cases p2
              rw [htj] at p1
              cases p1
              exact tok.1
            · rw [List.getElem?_set_ne (by omega)] at p2
              exact hw.2 m t' w' p1 p2⟩
          refine q2 E5 c5 _ (kB.trans kE) t5 hwu (fun w hw' => ?_) ?_
          · rcases List.mem_or_eq_of_mem_set hw' with z | z
            · exact hne w z
            · rw [z]
              exact cr
          · exact sqO_less hin tok.2.2 (fun z => tok.2.1 z.symm) (count_set_move hwj) (by omega)
        · exact ⟨_, _, _, _, rfl, kj⟩
      · exact ⟨_, _, _, _, rfl, kj⟩
    · obtain ⟨y5, y6, y7, y8, rfl, kj⟩ := hG
      exact ⟨_, _, _, _, _, rfl, kG.trans kj⟩
  obtain ⟨y4, y5, y6, y7, y8, rfl, kG⟩ := hG
  have kA := k1.trans kG
  refine ⟨_, rfl, _, rfl, .ref tw, n, ts, a, ws, rfl, W.ke kA, .inr (ha.ke kA), hwl, by omega, fun H2 l2 rs2 k2 nl2 hl2 hL2 => ?_⟩
  have kB := kA.trans k2
  have ho2 := Ke.tup (kG.trans k2) ho1
  refine ⟨_, rfl, tw, _, 0, _, rfl, rfl, sqT_of (Ke.tup kB htw), atI_nat (j := 0) rfl, _, rfl, by omega, by omega, ?_⟩
  refine for_range (lo := 0) (n := n.toNat) (fun i σ G => ∃ (y4 y5 y6 y8 : Option V), σ = [some (.ref tw), some root, some (.ref a), some (.ref o1), y4, y5, y6, some (.ref l2), y8] ∧ Ke H2 G ∧ ∀ s x, 0 ≤ s → s < (i : Int) → Cm (leadsF ts ws) [s] x → V.int x = root ∨ ws.count s < ws.count x + 2) ⟨_, _, _, _, rfl, .refl, fun s x a b => by omega⟩ (fun i σ G hi hG => ?_) (fun σ G hG => ?_)
  rotate_left
  · obtain ⟨y4, y5, y6, y8, rfl, kG, hall⟩ := hG
    exact q1 _ (kB.trans kG) fun s x a b => hall s x a (by omega)
  obtain ⟨y4, y5, y6, y8, rfl, kG, hall⟩ := hG
  have hin : (0 : Int) ≤ 0 + (i : Int) ∧ 0 + (i : Int) < n := ⟨by omega, by omega⟩
  refine ⟨_, rfl, _, rfl, by show 1 ≤ sizeLine; decide, fun L nL => ?_⟩
  have k3 := Ke.new (S := fun _ => False) (o := .lst [.int (0 + (i : Int))]) nL
  have gL : (upd G L (.lst [.int (0 + (i : Int))])) L = some (.lst ([0 + (i : Int)].map V.int)) := upd_same
  have kC := kG.trans k3
  generalize upd G L _ = G3 at *
  refine ⟨l2, L, n, rs2, leadsF ts ws, [0 + (i : Int)], rfl, Ke.lst kC hl2, hL2.ke kC, gL, by simp, fun x hx => by rw [List.mem_singleton.mp hx]; exact hin, fun a b hab => (leads_bd hw hok hab).2, hn0, by omega, by unfold leadsF; rw [List.length_map, List.length_zip]; omega, fun H5 l5 R k5 nl5 gl5 hR => ?_⟩
  have kD := kC.trans k5
  refine ⟨l5, rfl, ⟨_, sqL_of gl5⟩, ?_⟩
  refine for_list (K := K) (a := l5) (xs := R.map V.int) (fun j σ G => ∃ (y5 y6 y8 : Option V), σ = [some (.ref tw), some root, some (.ref a), some (.ref o1), some (.int (0 + (i : Int))), y5, y6, some (.ref l2), y8] ∧ Ke H5 G ∧ ∀ x ∈ R.take j, V.int x = root ∨ ws.count (0 + (i : Int)) < ws.count x + 2) ⟨_, _, _, rfl, .refl, fun _ z => nomatch z⟩ (fun j σ G _ hG => ?_) (fun j y σ G hy hG => ?_) (fun σ G hG => ?_)
  · obtain ⟨_, _, _, _, kj, _⟩ := hG
    exact sqL_of (Ke.lst kj gl5)
  · obtain ⟨y5, y6, y8, rfl, kj, hj⟩ := hG
    obtain ⟨x, hx, rfl⟩ := int_at hy
    have hxm := List.mem_of_getElem? hx
    have hxb := hR.bd x hxm
    have hsc : scal (.int x) root = true := by rcases hr0 with rfl | ⟨i, rfl⟩ <;> rfl
    have kE := kD.trans kj
    have hoG := Ke.tup kE ho2
    have nx : (V.int x = root ∨ ws.count (0 + (i : Int)) < ws.count x + 2) → ∀ z ∈ R.take (j + 1), V.int z = root ∨ ws.count (0 + (i : Int)) < ws.count z + 2 := fun h z hz => by
      rw [take_next hx] at hz
      rcases List.mem_append.mp hz with hz | hz
      · exact hj z hz
      · rw [List.mem_singleton.mp hz]
        exact h
    refine ⟨_, rfl, _, rfl, hsc, _, rfl, ?_⟩
    by_cases cr : V.int x = root
    · rw [decide_eq_true cr]
      refine (if_neg (by decide)).mpr ?_
      exact iteF ⟨_, _, _, rfl, kj, nx (.inl cr)⟩
    rw [decide_eq_false cr]
    refine (if_pos (by decide)).mpr ?_
    refine ⟨_, rfl, _, rfl, o1, _, _, _, rfl, rfl, sqT_of hoG, hat _ hxb.1 hxb.2, _, _, rfl, rfl, _, rfl, _, rfl, o1, _, _, _, rfl, rfl, sqT_of hoG, hat _ hin.1 hin.2, _, _, rfl, rfl, _, rfl, iteB (fun hb => ?_) (fun hb => ?_)⟩
    · have hb : (ws.count x : Int) + 2 ≤ (ws.count (0 + (i : Int)) : Int) := of_decide_eq_true hb
      have hcm := hR.sub x hxm
      have hnex : (0 + (i : Int)) ≠ x := fun z => by rw [z] at hb; omega
      have kF := kB.trans kE
      refine ⟨_, rfl, _, rfl, _, rfl, _, rfl, .ref tw, n, ts, a, ws, 0 + (i : Int), x, rfl, W.ke kF, ha.ke kF, hw, hok, hn0, by omega, by omega, hin, hcm, fun H6 b us k6 hb6 hw6 hc6 => ?_⟩
      refine q2 H6 b us (kF.trans k6) hb6 hw6 (fun w hwm z => ?_) (sqO_less hin hxb hnex hc6 (by omega))
      have h1 := hc6 w
      have h2 : ws.count w = 0 := List.count_eq_zero.mpr fun y => hne w y z
      have h3 : 0 < us.count w := List.count_pos_iff.mpr hwm
      by_cases c1 : w = x
      · rw [c1] at z
        exact cr z
      · rw [if_neg c1] at h1
        omega
    · have hb : ¬ (ws.count x : Int) + 2 ≤ (ws.count (0 + (i : Int)) : Int) := of_decide_eq_false hb
      exact ⟨_, _, _, rfl, kj, nx (.inr (by omega))⟩
  · obtain ⟨y5, y6, y8, rfl, kj, hj⟩ := hG
    rw [List.length_map, List.take_length] at hj
    refine ⟨_, _, _, _, rfl, kD.trans kj, fun s x a b c => ?_⟩
    by_cases cs : s = 0 + (i : Int)
    · subst cs
      exact hj x (hR.all c)
    · exact hall s x a (by omega) c
theorem ok__law_lots_of {P : Program} {w : World} {K : PySem.W.Frag} {mg : Str → Option Value} {base : Heap} {tb : List Addr} {f : Addr} {fd : FuncData} {f__law_outs : Addr} {fd__law_outs : FuncData} {f__law_leads : Addr} {fd__law_leads : FuncData} {f__law_come_to : Addr} {fd__law_come_to : FuncData} (T : Blt mg) (D__law_lots_of : DefAt K mg "_law_lots_of" s_law_lots_of ["_law_web_here", "_law_root_here", "_law_ways"] f fd) (D__law_outs : DefAt K mg "_law_outs" s_law_outs ["_law_web_here", "_law_ways"] f__law_outs fd__law_outs) (G__law_outs : FnOk P w K mg base CX0 1 f__law_outs fd__law_outs ["_law_web_here", "_law_ways"] (sp__law_outs K tb)) (D__law_leads : DefAt K mg "_law_leads" s_law_leads ["_law_web_here", "_law_ways"] f__law_leads fd__law_leads) (G__law_leads : FnOk P w K mg base CX0 1 f__law_leads fd__law_leads ["_law_web_here", "_law_ways"] (sp__law_leads K tb)) (D__law_come_to : DefAt K mg "_law_come_to" s_law_come_to ["_law_leads_here", "_law_starts"] f__law_come_to fd__law_come_to) (G__law_come_to : FnOk P w K mg base CX0 1 f__law_come_to fd__law_come_to ["_law_leads_here", "_law_starts"] (sp__law_come_to K tb)) :
    FnOk P w K mg base CX0 2 f fd ["_law_web_here", "_law_root_here", "_law_ways"] (sp__law_lots_of K tb) := by
  refine D__law_lots_of.ok sc__law_lots_of (fun vs H Q E h => by
    obtain ⟨v, n, ts, root, a, ws, rfl, W, hr0, ha, hw, hok, hn0, hn1, hlen, q⟩ := h
    all_goals rfl) fun A outer s H vs Q E hr h => ?_
  obtain ⟨v, n, ts, root, a, ws, rfl, W, hr0, ha, hw, hok, hn0, hn1, hlen, q⟩ := h
  refine ⟨_, pss_cons (ps_set (i := 3) sc__law_lots_of.nd rfl (.inr rfl) (pe_call G__law_outs (hr.mono (by decide)) (by rfl) D__law_outs.g D__law_outs.F.kp D__law_outs.b .nil pass0 (pa_cons (pv 0) (pa_cons (pv 2) pa_nil))))
     (pss_cons (ps_set (i := 4) sc__law_lots_of.nd rfl (.inl rfl) (pe_call G__law_leads (hr.mono (by decide)) (by rfl) D__law_leads.g D__law_leads.F.kp D__law_leads.b .nil pass0 (pa_cons (pv 0) (pa_cons (pv 2) pa_nil))))
     (pss_cons (ps_set (i := 5) sc__law_lots_of.nd rfl (.inl rfl) (pe_lst pa_nil))
     (pss_cons (ps_for PassesOwn.never rfl (pi_range2 (by rfl) T.b_range (pa_cons (pe_int) (pa_cons (pe_callB (maxT (K := K) rfl hr.units) (by rfl) T.b_max (by decide +kernel) (pa_cons (pv 3) pa_nil)) pa_nil))) (pg_name (i := 6) sc__law_lots_of.nd rfl (.inr rfl))
     (pss_cons (ps_set (i := 8) sc__law_lots_of.nd rfl (.inl rfl) (pe_call G__law_come_to (hr.mono (by decide)) (by rfl) D__law_come_to.g D__law_come_to.F.kp D__law_come_to.b .nil pass0 (pa_cons (pv 4) (pa_cons (pe_lc (own := [("_law_point", 7)]) rfl sc__law_lots_of.nd (pi_range1 (by rfl) T.b_range (pa_cons (pe_ix (ix_tupK (K := K)) (pv 0) (pe_int) (fun _ _ => rfl)) pa_nil)) (blkOk_by (own := [("_law_point", 7)]) (N := nm__law_lots_of) (sc := defScope s_law_lots_of) (by decide +kernel)) (fun _ _ _ _ _ => pg_name (i := 7) sc__law_lots_of.nd rfl (.inl rfl)) (fun _ _ _ _ _ => pts_one (pt_cmpR op_gt (pe_ix (ix_tupK (K := K)) (pv 3) (pv 7) (fun _ _ => rfl)) (pv 6) (nomark _))) (fun _ _ _ _ _ => pv 7)) pa_nil))))
     (pss_one (ps_expr (pe_bm PySem.F.plainAttrs_list PySem.F.slot_list_append PySem.F.type_list_append mt_append (pv 5) (pa_cons (pe_callTy (tupleK (K := K)) (by rfl) T.b_tuple (by decide +kernel) (pa_cons (pe_callB (sortedK (K := K)) (by rfl) T.b_sorted (by decide +kernel) (pa_cons (pe_lc (own := [("_law_point", 7)]) rfl sc__law_lots_of.nd (pi_list (pv 8)) (blkOk_by (own := [("_law_point", 7)]) (N := nm__law_lots_of) (sc := defScope s_law_lots_of) (by decide +kernel)) (fun _ _ _ _ _ => pg_name (i := 7) sc__law_lots_of.nd rfl (.inl rfl)) (fun _ _ _ _ _ => pts_one (pt_cmpR op_ne (pv 7) (pv 1) (nomark _))) (fun _ _ _ _ _ => pv 7)) pa_nil)) pa_nil)) pa_nil))))))
     (pss_one (ps_ret (pe_callTy (tupleF (K := K)) (by rfl) T.b_tuple (by decide +kernel) (pa_cons (pv 5) pa_nil))))))), ?_⟩
  have LB := line_big
  obtain ⟨tw, w0, rs0, rfl, htw, hw0, hTs⟩ := id W
  have hwl := hw.1
  refine ⟨_, rfl, _, rfl, .ref tw, n, ts, a, ws, rfl, W, by omega, by omega, ha, fun H1 o1 k1 ho1 => ?_⟩
  refine ⟨_, rfl, _, rfl, .ref tw, n, ts, a, ws, rfl, W.ke k1, .inr (ha.ke k1), hwl, by omega, fun H2 l2 rs2 k2 nl2 hl2 hL2 => ?_⟩
  refine ⟨by show 0 ≤ sizeLine; decide, fun L nL => ?_⟩
  have k3 := Ke.new (S := fun _ => False) (o := .lst []) nL
  have gL : (upd H2 L (.lst [])) L = some (.lst []) := upd_same
  have kA := (k1.trans k2).trans k3
  have ho3 := Ke.tup (k2.trans k3) ho1
  have hl3 := Ke.lst k3 hl2
  have hL3 := hL2.ke k3
  have nHL : H L = none := (k1.trans k2).dom L nL
  have nL2 : L ≠ l2 := fun z => by rw [z, hl2] at nL; cases nL
  generalize upd H2 L _ = H3 at *
  have hol := outsL_length n ws
  refine ⟨_, rfl, o1, _, rfl, sqT_of ho3, by omega, fun m hm hmx => ?_⟩
  have em := mx_is hm hmx
  subst em
  have hmb : 0 ≤ mx (outsL n ws) ∧ mx (outsL n ws) ≤ 500 := by
    unfold outsL at hm
    obtain ⟨p, hp, e⟩ := List.mem_map.mp hm
    have := List.count_le_length (a := p) (l := ws)
    unfold outsL
    rw [← e]
    omega
  have htop : topF (outsL n ws) = (mx (outsL n ws) - 1).toNat := by
    unfold topF
    split <;> omega
  refine ⟨1, _, rfl, ⟨by decide, by decide, by omega, by omega⟩, ?_⟩
  refine for_range (lo := 1) (n := (mx (outsL n ws) - 1).toNat) (fun i σ G => ∃ (y6 y7 y8 : Option V) (rs : List V) (lots : List (List Int)), σ = [some (.ref tw), some root, some (.ref a), some (.ref o1), some (.ref l2), some (.ref L), y6, y7, y8] ∧ Ke H G ∧ G L = some (.lst rs) ∧ Lots G rs lots ∧ lots.length = i ∧ (∀ (j : Nat) (ls : List Int), lots[j]? = some ls → ls.Pairwise (· < ·) ∧ ∃ R ss, ComeR n (leadsF ts ws) ss R ∧ (∀ p, p ∈ ss ↔ (0 ≤ p ∧ p < n) ∧ (1 + (j : Int)) < (ws.count p : Int)) ∧ ∀ p, p ∈ ls ↔ p ∈ R ∧ V.int p ≠ root) ∧ G o1 = some (.tup ((outsL n ws).map V.int)) ∧ G l2 = some (.lst rs2) ∧ Ties G rs2 (leadsF ts ws)) ⟨_, _, _, [], [], rfl, kA, gL, .nil, rfl, (fun j ls z => by cases z), ho3, hl3, hL3⟩ (fun i σ G hi hG => ?_) (fun σ G hG => ?_)
  · obtain ⟨y6, y7, y8, rs, lots, rfl, kG, gL2, hLo, hll, hea, hoG, hlG, hLG⟩ := hG
    refine ⟨_, rfl, _, rfl, tw, _, 0, _, rfl, rfl, sqT_of (Ke.tup kG htw), atI_nat (j := 0) rfl, _, rfl, by omega, by omega, fun D hD => ?_⟩
    refine lc_range (lo := 0) (n := n.toNat) (fun j G' => Ke G G' ∧ ∃ ss : List Int, G' D = some (.lst (ss.map V.int)) ∧ ss.Nodup ∧ ss.length ≤ j ∧ ∀ p, p ∈ ss ↔ (0 ≤ p ∧ p < (j : Int)) ∧ (1 + (i : Int)) < (ws.count p : Int)) ⟨Ke.new hD, [], upd_same, .nil, Nat.le_refl _, fun p => ⟨fun z => (nomatch z), fun z => by omega⟩⟩ (fun j G' hj hG => ?_) (fun G' hG => ?_)
    · obtain ⟨k2, ss, gD, snd, sl, sm⟩ := hG
      have hjn : (j : Int) < n := by omega
      have hoj : atI ((outsL n ws).map V.int) (0 + (j : Int)) = some (.int (ws.count (j : Int) : Int)) := by
        rw [show (0 : Int) + (j : Int) = (j : Int) by omega, hat_at (by omega) (by omega), outsL_hat (by omega) hjn]
      refine ⟨rfl, _, rfl, _, rfl, o1, _, _, _, rfl, rfl, sqT_of (Ke.tup k2 hoG), hoj, _, rfl, _, _, rfl, rfl, _, rfl, ?_⟩
      by_cases c : (1 + (i : Int)) < (ws.count (j : Int) : Int)
      · rw [decide_eq_true c]
        refine iteT ⟨_, rfl, _, gD, by rw [List.length_map]; omega, k2.over hD, ss ++ [(j : Int)], by rw [List.map_append]; rw [upd_same]; show some (HO.lst (_ ++ [V.int (0 + (j : Int))])) = some (HO.lst (_ ++ [V.int (j : Int)])); rw [Int.zero_add], nd_snoc snd fun z => by have := ((sm _).mp z).1; omega, by rw [List.length_append]; exact Nat.succ_le_succ sl, fun p => ?_⟩
        rw [List.mem_append, List.mem_singleton, sm p]
        constructor
        · rintro (⟨a, b⟩ | rfl)
          · exact ⟨by omega, b⟩
          · exact ⟨by omega, c⟩
        · rintro ⟨a, b⟩
          by_cases e : p = (j : Int)
          · exact .inr e
          · exact .inl ⟨by omega, b⟩
      · rw [decide_eq_false c]
        refine iteF ⟨k2, ss, gD, snd, by omega, fun p => ?_⟩
        rw [sm p]
        constructor
        · rintro ⟨a, b⟩
          exact ⟨by omega, b⟩
        · rintro ⟨a, b⟩
          by_cases e : p = (j : Int)
          · rw [e] at b
            exact absurd b c
          · exact ⟨by omega, b⟩
    · obtain ⟨k2, ss, gD, snd, sl, sm⟩ := hG
      have kB := kG.trans k2
      refine ⟨l2, D, n, rs2, leadsF ts ws, ss, rfl, Ke.lst k2 hlG, hLG.ke k2, gD, snd, fun x hx => by have := ((sm x).mp hx).1; omega, fun a b hab => (leads_bd hw hok hab).2, hn0, by omega, by unfold leadsF; rw [List.length_map, List.length_zip]; omega, fun H5 l5 R k5 nl5 gl5 hR => ?_⟩
      have kC := kB.trans k5
      refine ⟨_, rfl, .inl ⟨rfl, _, sqL_of (Ke.lst (k2.trans k5) gL2)⟩, ?_⟩
      refine ⟨_, rfl, l5, rfl, ⟨_, sqL_of gl5⟩, fun D3 hD3 => ?_⟩
      refine lc_list (K := K) (a := l5) (xs := R.map V.int) (fun j G6 => Ke H5 G6 ∧ G6 D3 = some (.lst (((R.take j).filter fun p => !decide (V.int p = root)).map V.int))) ⟨Ke.new hD3, upd_same⟩ (fun j G6 _ hG => sqL_of (hG.1.lst gl5)) (fun j x G6 hx hG => ?_) (fun G6 hG => ?_)
      · obtain ⟨k6, g6⟩ := hG
        obtain ⟨p0, hp0, rfl⟩ := int_at hx
        have hsc : scal (.int p0) root = true := by rcases hr0 with rfl | ⟨i, rfl⟩ <;> rfl
        refine ⟨rfl, _, rfl, _, rfl, hsc, _, rfl, ?_⟩
        by_cases ce : V.int p0 = root
        · rw [decide_eq_true ce]
          refine iteF ⟨k6, ?_⟩
          rw [take_next hp0, List.filter_append, List.filter_cons, if_neg (by rw [decide_eq_true ce]; decide), List.filter_nil, List.append_nil]
          exact g6
        · rw [decide_eq_false ce]
          have hRl : R.length ≤ 60 := by
            have := nd_le hR.nd (m := upTo n) fun x hx => upTo_mem.mpr (hR.bd x hx)
            rw [upTo_length] at this
            omega
          refine iteT ⟨_, rfl, _, g6, by rw [List.length_map]; have := List.length_filter_le (fun p => !decide (V.int p = root)) (R.take j); have := List.length_take_le' j R; omega, k6.over hD3, ?_⟩
          rw [take_next hp0, List.filter_append, List.filter_cons, if_pos (by rw [decide_eq_false ce]; decide), List.filter_nil, List.map_append]
          exact upd_same
      · obtain ⟨k6, g6⟩ := hG
        rw [List.length_map, List.take_length] at g6
        refine ⟨D3, _, rfl, sqL_of g6, fun ms p1 hp hs np1 => ?_⟩
        refine ⟨p1, _, rfl, .inl ⟨sqL_of upd_same, fun p2 np2 => ?_⟩⟩
        have k7 := (Ke.new (S := fun _ => False) (o := .lst (ms.map V.int)) np1).trans (Ke.new (o := .tup (ms.map V.int)) np2)
        have g2 : (upd (upd G6 p1 (.lst (ms.map V.int))) p2 (.tup (ms.map V.int))) p2 = some (.tup (ms.map V.int)) := upd_same
        have kk := ((k2.trans k5).trans k6).trans k7
        have nd6 : (R.filter fun p => !decide (V.int p = root)).Nodup := hR.nd.filter _
        have hup : ms.Pairwise (· < ·) := (hs.and (hp.nodup_iff.mpr nd6)).imp fun z => by omega
        have hmm : ∀ p, p ∈ ms ↔ p ∈ R ∧ V.int p ≠ root := fun p => by
          rw [hp.mem_iff, List.mem_filter, Bool.not_eq_true', decide_eq_false_iff_not]
        generalize upd (upd G6 p1 _) p2 _ = G7 at *
        have gL7 := Ke.lst kk gL2
        have hLo7 := hLo.ke kk
        have hrl := hLo.length
        refine ⟨L, _, _, rfl, rfl, gL7, by omega, ?_⟩
        have tkL : ∀ q ys, G7 q = some (.tup ys) → (upd G7 L (.lst (rs ++ [.ref p2]))) q = some (.tup ys) := fun q ys e => by rw [upd_ne (ne_of e gL7 fun z => nomatch z)]; exact e
        have nl2L : l2 ≠ L := fun z => nL2 z.symm
        refine ⟨_, _, _, rs ++ [.ref p2], lots ++ [ms], rfl, (kG.trans kk).over nHL, upd_same, (hLo7.put gL7).append (.cons ⟨p2, rfl, tkL _ _ g2⟩ .nil), by rw [List.length_append, hll]; rfl, fun j ls hj => ?_, tkL _ _ (Ke.tup kk hoG), by rw [upd_ne nl2L]; exact Ke.lst kk hlG, (hLG.ke kk).put gL7⟩
        by_cases cj : j < lots.length
        · rw [List.getElem?_append_left cj] at hj
          exact hea j ls hj
        · have ej : j = lots.length := by
            have := (List.getElem?_eq_some_iff.mp hj).1
            rw [List.length_append] at this
            have : j < lots.length + 1 := this
            omega
          subst ej
          rw [List.getElem?_append_right (Nat.le_refl _), Nat.sub_self] at hj
          cases hj
          refine ⟨hup, R, ss, hR, fun p => ?_, hmm⟩
          rw [sm p, hll]
          constructor
          · rintro ⟨a, b⟩
            exact ⟨by omega, b⟩
          · rintro ⟨a, b⟩
            exact ⟨by omega, b⟩
  · obtain ⟨y6, y7, y8, rs, lots, rfl, kG, gL2, hLo, hll, hea, hoG, hlG, hLG⟩ := hG
    refine ⟨_, rfl, L, _, rfl, sqL_of gL2, fun z ob nz ho => ?_⟩
    exact q _ z rs lots (kG.trans (Ke.new nz)) ⟨ob, upd_same, ho⟩ (hLo.new nz) ⟨by rw [hll, htop], hea⟩
theorem ok__law_even_paper {P : Program} {w : World} {K : PySem.W.Frag} {mg : Str → Option Value} {base : Heap} {tb : List Addr} {f : Addr} {fd : FuncData} {f__law_evened : Addr} {fd__law_evened : FuncData} {f__law_lots_of : Addr} {fd__law_lots_of : FuncData} (T : Blt mg) (D__law_even_paper : DefAt K mg "_law_even_paper" s_law_even_paper ["_law_web_here", "_law_root_here", "_law_ways"] f fd) (D__law_evened : DefAt K mg "_law_evened" s_law_evened ["_law_web_here", "_law_root_here", "_law_ways"] f__law_evened fd__law_evened) (G__law_evened : FnOk P w K mg base CX0 2 f__law_evened fd__law_evened ["_law_web_here", "_law_root_here", "_law_ways"] (sp__law_evened K tb)) (D__law_lots_of : DefAt K mg "_law_lots_of" s_law_lots_of ["_law_web_here", "_law_root_here", "_law_ways"] f__law_lots_of fd__law_lots_of) (G__law_lots_of : FnOk P w K mg base CX0 2 f__law_lots_of fd__law_lots_of ["_law_web_here", "_law_root_here", "_law_ways"] (sp__law_lots_of K tb)) :
    FnOk P w K mg base CX0 3 f fd ["_law_web_here", "_law_root_here", "_law_ways"] (sp__law_even_paper K tb) := by
  refine D__law_even_paper.ok sc__law_even_paper (fun vs H Q E h => by
    obtain ⟨v, n, ts, root, a, ws, rfl, W, hr0, ha, hw, hne, hok, hn0, hn1, hlen, q⟩ := h
    all_goals rfl) fun A outer s H vs Q E hr h => ?_
  obtain ⟨v, n, ts, root, a, ws, rfl, W, hr0, ha, hw, hne, hok, hn0, hn1, hlen, q⟩ := h
  refine ⟨_, pss_cons (ps_set (i := 3) sc__law_even_paper.nd rfl (.inl rfl) (pe_call G__law_evened (hr.mono (by decide)) (by rfl) D__law_evened.g D__law_evened.F.kp D__law_evened.b .nil pass0 (pa_cons (pv 0) (pa_cons (pv 1) (pa_cons (pv 2) pa_nil)))))
     (pss_cons (ps_while PassesOwn.never (pt_cmpR op_notN (pv 3) (pe_non) (nomark _))
     (pss_cons (ps_set (i := 2) sc__law_even_paper.nd rfl (.inl rfl) (pv 3))
     (pss_one (ps_set (i := 3) sc__law_even_paper.nd rfl (.inl rfl) (pe_call G__law_evened (hr.mono (by decide)) (by rfl) D__law_evened.g D__law_evened.F.kp D__law_evened.b .nil pass0 (pa_cons (pv 0) (pa_cons (pv 1) (pa_cons (pv 2) pa_nil))))))))
     (pss_one (ps_ret (pe_tup (pa_cons (pv 2) (pa_cons (pe_call G__law_lots_of (hr.mono (by decide)) (by rfl) D__law_lots_of.g D__law_lots_of.F.kp D__law_lots_of.b .nil pass0 (pa_cons (pv 0) (pa_cons (pv 1) (pa_cons (pv 2) pa_nil)))) pa_nil)))))), ?_⟩
  have LB := line_big
  apply shareV (R := fun G (y : V) => Ke H G ∧ ((y = .non ∧ EvenR n ts root ws) ∨ ∃ b us, y = .ref b ∧ TF G b (us.map V.int) ∧ WOk ts us ∧ (∀ w ∈ us, V.int w ≠ root) ∧ sqO n us < sqO n ws))
  case main =>
    intro rest
    exact ⟨_, rfl, _, rfl, _, rfl, v, n, ts, root, a, ws, rfl, W, hr0, ha, hw, hne, hok, hn0, hn1, hlen, fun H1 y k1 h => rest H1 y ⟨k1, h⟩⟩
  case h1 =>
    intro G0 y0 hG0
    obtain ⟨kG0, hy0⟩ := hG0
    refine while_gh (α := List Int) (fun ws' σ G => ∃ (a' : Addr) (y3 : V), σ = [some v, some root, some (.ref a'), some y3] ∧ Ke H G ∧ TF G a' (ws'.map V.int) ∧ WOk ts ws' ∧ (∀ w ∈ ws', V.int w ≠ root) ∧ ((y3 = .non ∧ EvenR n ts root ws') ∨ ∃ b us, y3 = .ref b ∧ TF G b (us.map V.int) ∧ WOk ts us ∧ (∀ w ∈ us, V.int w ≠ root) ∧ sqO n us < sqO n ws')) (fun ws' => sqO n ws') ws ⟨a, y0, rfl, kG0, ha.ke kG0, hw, hne, hy0⟩ (fun ws' σ G hW => ?_) ?_
    · obtain ⟨a', y3, rfl, kG, ha', hw', hne', hy3⟩ := hW
      refine ⟨_, rfl, rfl, _, rfl, ?_⟩
      rcases hy3 with ⟨rfl, hE⟩ | ⟨b, us, rfl, h1, h2, h3, h4⟩
      · rw [decide_eq_true rfl]
        refine (if_neg (by decide)).mpr ?_
        refine ⟨_, rfl, _, rfl, _, rfl, _, rfl, v, n, ts, root, a', ws', rfl, W.ke kG, hr0, ha', hw', hok, hn0, hn1, hlen, fun H1 l rs lots k1 hl hLo hLE => ⟨by show 2 ≤ sizeLine; decide, fun x nx => ?_⟩⟩
        have kx := Ke.new (S := fun _ => False) (o := .tup [.ref a', .ref l]) nx
        exact q _ x a' l ws' rs lots (kG.trans (k1.trans kx)) upd_same (ha'.ke (k1.trans kx)) hw' hne' hE (hl.ke kx) (hLo.ke kx) hLE
      · rw [decide_eq_false (fun z => nomatch z)]
        refine (if_pos (by decide)).mpr ?_
        refine ⟨_, rfl, _, rfl, _, rfl, _, rfl, v, n, ts, root, b, us, rfl, W.ke kG, hr0, h1, h2, h3, hok, hn0, hn1, hlen, fun H1 y k1 hy => ?_⟩
        exact ⟨us, h4, b, y, rfl, kG.trans k1, h1.ke k1, h2, h3, hy⟩
    · rintro σ G Q1 Q2 hQ ⟨x, hx, e, b, hb, h⟩
      exact ⟨x, hx, e, b, hb, hQ _ _ h⟩
theorem ok__law_are_ways {P : Program} {w : World} {K : PySem.W.Frag} {mg : Str → Option Value} {base : Heap} {tb : List Addr} {f : Addr} {fd : FuncData} {f__law_is_int : Addr} {fd__law_is_int : FuncData} (T : Blt mg) (D__law_are_ways : DefAt K mg "_law_are_ways" s_law_are_ways ["_law_web_here", "_law_thing"] f fd) (D__law_is_int : DefAt K mg "_law_is_int" s_law_is_int ["_law_thing", "_law_least", "_law_most"] f__law_is_int fd__law_is_int) (G__law_is_int : FnOk P w K mg base CX0 1 f__law_is_int fd__law_is_int ["_law_thing", "_law_least", "_law_most"] (sp__law_is_int K tb)) :
    FnOk P w K mg base CX0 2 f fd ["_law_web_here", "_law_thing"] (sp__law_are_ways K tb) := by
  refine D__law_are_ways.ok sc__law_are_ways (fun vs H Q E h => by
    obtain ⟨v, n, ts, t, o, rfl, W, hok, hn1, hlen, ht, q⟩ := h
    all_goals rfl) fun A outer s H vs Q E hr h => ?_
  obtain ⟨v, n, ts, t, o, rfl, W, hok, hn1, hlen, ht, q⟩ := h
  refine ⟨_, pss_cons (ps_if (PW.pt (pw_or (pt_not (pt_val (pe_callB (isiK (K := K)) (by rfl) T.b_isinstance (by decide +kernel) (pa_cons (pv 1) (pa_cons (pe_bltn (v := .ty "tuple") (u := .type "tuple") (by rfl) T.b_tuple (by decide +kernel) rfl) pa_nil))))) (pw_or1 (pt_cmpR op_ne (pe_callB (lenK (K := K)) (by rfl) T.b_len PySem.boot_len (pa_cons (pv 1) pa_nil)) (pe_callB (lenK (K := K)) (by rfl) T.b_len PySem.boot_len (pa_cons (pe_ix (ix_tupK (K := K)) (pv 0) (pe_int) (fun _ _ => rfl)) pa_nil)) (nomark _)))))
     (pss_one (ps_ret (pe_bl)))
     (pss_nil))
     (pss_one (ps_ret (pe_callB (allK (K := K) rfl) (by rfl) T.b_all (by decide +kernel) (pa_cons (pe_lc (own := [("_law_out", 2), ("_law_tie_here", 3)]) rfl sc__law_are_ways.nd (RZ.pi_zipA (by rfl) T.b_zip (pa_cons (pv 1) (pa_cons (pe_ix (ix_tupK (K := K)) (pv 0) (pe_int) (fun _ _ => rfl)) pa_nil))) (blkOk_by (own := [("_law_out", 2), ("_law_tie_here", 3)]) (N := nm__law_are_ways) (sc := defScope s_law_are_ways) (by decide +kernel)) (fun _ _ _ _ _ => tgtK (K := K) (n := 2) (pgs_cons (pg_name (i := 2) sc__law_are_ways.nd rfl (.inl rfl)) (pgs_cons (pg_name (i := 3) sc__law_are_ways.nd rfl (.inl rfl)) pgs_nil))) (fun _ _ _ _ _ => pts_nil) (fun _ _ _ _ _ => pe_and (pe_call G__law_is_int (hr.mono (by decide)) (by rfl) D__law_is_int.g D__law_is_int.F.kp D__law_is_int.b .nil pass0 (pa_cons (pv 2) (pa_cons (pe_int) (pa_cons (pe_op op_sub (pe_ix (ix_tupK (K := K)) (pv 0) (pe_int) (fun _ _ => rfl)) (pe_int)) pa_nil)))) (pe_one (pe_cmpR (in_seqK (K := K)) (pv 2) (pv 3) (by rfl))))) pa_nil)))), ?_⟩
  have LB := line_big
  obtain ⟨tw, wu, rs, rfl, htw, hwu, hT⟩ := id W
  have hrl := hT.length
  cases ht with
  | @no _ nm h hn =>
    refine ⟨_, rfl, t, _, _, _, _, rfl, .ty _, h.x, isi_noF h hn, _, rfl, ?_⟩
    exact iteT (iteT (q H .refl))
  | @yes a xs h hx =>
  refine ⟨_, rfl, _, _, _, _, true, rfl, .ty _, TyF.x (.tf h), isi_yes, true, rfl, iteF ?_⟩
  refine ⟨_, rfl, a, _, rfl, .inr h.sq, _, rfl, tw, _, 1, _, rfl, rfl, sqT_of htw, atI_nat (j := 1) rfl, wu, _, rfl, .inr (sqT_of hwu), rfl, _, rfl, ?_⟩
  rw [decide_int, hrl]
  by_cases cl : xs.length = ts.length
  rotate_left
  · rw [decide_eq_false (by omega)]
    have q0 := q H .refl
    have : waysO ts (some xs) = false := by
      cases c : waysO ts (some xs) with
      | false => rfl
      | true => exact absurd (endsB_len (show endsB ts xs = true from c)) cl
    rw [this] at q0
    exact iteT q0
  rw [decide_eq_true (by omega)]
  refine iteF ?_
  rw [waysO_all cl] at q
  refine ⟨_, rfl, _, rfl, tw, _, 1, _, rfl, rfl, sqT_of htw, atI_nat (j := 1) rfl, ?_⟩
  refine ⟨a, wu, _, _, rfl, .inr ⟨h.sq (K := K), sqT_of hwu, fun D hD => ?_⟩⟩
  refine lc_it (walk_zipT (K := K) (a := a) (b := wu) (xs := xs) (ys := rs) (n := ts.length) (by omega)) (fun i G => Ke H G ∧ G D = some (.lst (((List.range i).map fun i => isEnd (ts.getD i (0, 0)) (xs.getD i .non)).map V.bl))) ⟨Ke.new hD, upd_same⟩ (fun i G _ hG => ⟨(h.ke hG.1).sq, sqT_of (hG.1.tup hwu)⟩) (fun i x G G' hi hG hy => ?_) (fun G hG => ?_)
  · obtain ⟨kG, gD⟩ := hG
    obtain ⟨T1, z1, y1, rfl, nT, rfl, e1, e2⟩ := hy
    have e1 : xs[i]? = some z1 := e1
    obtain ⟨⟨ta, tb'⟩, qt, hti, rfl, hqt⟩ := hT.get e2
    obtain ⟨nm, hty⟩ := hx z1 (List.mem_of_getElem? e1)
    have kT := Ke.new (S := fun _ => False) (o := .tup [z1, .ref qt]) nT
    have kGT := kG.trans kT
    have gT : (upd G T1 (.tup [z1, .ref qt])) T1 = some (.tup [z1, .ref qt]) := upd_same
    have gD1 := Ke.lst kT gD
    generalize upd G T1 _ = G2 at *
    have hqt2 := Ke.tup kGT hqt
    refine ⟨T1, _, rfl, sqT_of gT, rfl, _, _, rfl, _, [], rfl, rfl, rfl, yes_ite ?_⟩
    have fin : ∀ b : Bool, b = isEnd (ta, tb') z1 → ∃ acc : List V, G2 D = some (.lst acc) ∧ acc.length < sizeLine ∧ Ke H (upd G2 D (.lst (acc ++ [.bl b]))) ∧ (upd G2 D (.lst (acc ++ [.bl b]))) D = some (.lst (((List.range (i + 1)).map fun i => isEnd (ts.getD i (0, 0)) (xs.getD i .non)).map V.bl)) := fun b hb => by
      refine ⟨_, gD1, by rw [List.length_map, List.length_map, List.length_range]; omega, kGT.over hD, ?_⟩
      rw [upd_same, List.range_succ, List.map_append, List.map_append, hb]
      have h1 : ts.getD i (0, 0) = (ta, tb') := by rw [List.getD_eq_getElem?_getD, hti]; rfl
      have h2 : xs.getD i .non = z1 := by rw [List.getD_eq_getElem?_getD, e1]; rfl
      rw [List.map_cons, List.map_nil, List.map_cons, List.map_nil, h1, h2]
    obtain ⟨o1, o2, o3⟩ := hok _ (List.mem_of_getElem? hti)
    dsimp only at o1 o2 o3
    have eE := isEnd_num (n := n) (t := (ta, tb')) (x := z1) ⟨o1, o2, o3⟩
    refine ⟨_, rfl, _, rfl, tw, _, 0, _, rfl, rfl, sqT_of (Ke.tup kGT htw), atI_nat (j := 0) rfl, _, _, rfl, rfl, z1, 0, n - 1, nm, rfl, hty.ke kGT, ?_⟩
    refine ⟨_, rfl, ?_⟩
    show (if isNum z1 0 (n - 1) = true then _ else _)
    cases c1 : isNum z1 0 (n - 1) with
    | false =>
      rw [c1, Bool.false_and] at eE
      refine (if_neg Bool.false_ne_true).mpr ?_
      exact fin false eE.symm
    | true =>
      rw [c1, Bool.true_and] at eE
      refine (if_pos rfl).mpr ?_
      have hfl : flatV z1 = true := by
        cases z1 with
        | int _ => rfl
        | _ => cases c1
      refine ⟨_, rfl, _, rfl, qt, _, rfl, .inr (sqT_of hqt2), hfl, rfl, ?_⟩
      exact fin _ eE.symm
  · obtain ⟨kG, gD⟩ := hG
    refine ⟨D, _, rfl, sqL_of gD, ?_⟩
    rw [List.all_map]
    exact q _ kG
theorem ok__law_is_even {P : Program} {w : World} {K : PySem.W.Frag} {mg : Str → Option Value} {base : Heap} {tb : List Addr} {f : Addr} {fd : FuncData} {f__law_outs : Addr} {fd__law_outs : FuncData} {f__law_is_lot : Addr} {fd__law_is_lot : FuncData} {f__law_leads : Addr} {fd__law_leads : FuncData} {f__law_are_ways : Addr} {fd__law_are_ways : FuncData} (T : Blt mg) (D__law_is_even : DefAt K mg "_law_is_even" s_law_is_even ["_law_web_here", "_law_root_here", "_law_thing"] f fd) (D__law_outs : DefAt K mg "_law_outs" s_law_outs ["_law_web_here", "_law_ways"] f__law_outs fd__law_outs) (G__law_outs : FnOk P w K mg base CX0 1 f__law_outs fd__law_outs ["_law_web_here", "_law_ways"] (sp__law_outs K tb)) (D__law_is_lot : DefAt K mg "_law_is_lot" s_law_is_lot ["_law_web_here", "_law_thing"] f__law_is_lot fd__law_is_lot) (G__law_is_lot : FnOk P w K mg base CX0 2 f__law_is_lot fd__law_is_lot ["_law_web_here", "_law_thing"] (sp__law_is_lot K tb)) (D__law_leads : DefAt K mg "_law_leads" s_law_leads ["_law_web_here", "_law_ways"] f__law_leads fd__law_leads) (G__law_leads : FnOk P w K mg base CX0 1 f__law_leads fd__law_leads ["_law_web_here", "_law_ways"] (sp__law_leads K tb)) (D__law_are_ways : DefAt K mg "_law_are_ways" s_law_are_ways ["_law_web_here", "_law_thing"] f__law_are_ways fd__law_are_ways) (G__law_are_ways : FnOk P w K mg base CX0 2 f__law_are_ways fd__law_are_ways ["_law_web_here", "_law_thing"] (sp__law_are_ways K tb)) :
    FnOk P w K mg base CX0 3 f fd ["_law_web_here", "_law_root_here", "_law_thing"] (sp__law_is_even K tb) := by
  refine D__law_is_even.ok sc__law_is_even (fun vs H Q E h => by
    obtain ⟨v, n, ts, root, t, o, rfl, W, hr0, hok, hn0, hn1, hlen, ht, q⟩ := h
    all_goals rfl) fun A outer s H vs Q E hr h => ?_
  obtain ⟨v, n, ts, root, t, o, rfl, W, hr0, hok, hn0, hn1, hlen, ht, q⟩ := h
  refine ⟨_, pss_cons (ps_if (PW.pt (pw_or (pt_not (pt_val (pe_callB (isiK (K := K)) (by rfl) T.b_isinstance (by decide +kernel) (pa_cons (pv 2) (pa_cons (pe_bltn (v := .ty "tuple") (u := .type "tuple") (by rfl) T.b_tuple (by decide +kernel) rfl) pa_nil))))) (pw_or (pt_cmpR op_ne (pe_callB (lenK (K := K)) (by rfl) T.b_len PySem.boot_len (pa_cons (pv 2) pa_nil)) (pe_int) (nomark _)) (pw_or1 (pt_not (pt_val (pe_call G__law_are_ways (hr.mono (by decide)) (by rfl) D__law_are_ways.g D__law_are_ways.F.kp D__law_are_ways.b .nil pass0 (pa_cons (pv 0) (pa_cons (pe_ix (ix_tupK (K := K)) (pv 2) (pe_int) (fun _ _ => rfl)) pa_nil)))))))))
     (pss_one (ps_ret (pe_bl)))
     (pss_nil))
     (pss_cons (ps_asg (pv 2) (tgtK (K := K) (n := 2) (pgs_cons (pg_name (i := 3) sc__law_is_even.nd rfl (.inl rfl)) (pgs_cons (pg_name (i := 4) sc__law_is_even.nd rfl (.inl rfl)) pgs_nil))))
     (pss_cons (ps_set (i := 5) sc__law_is_even.nd rfl (.inr rfl) (pe_call G__law_outs (hr.mono (by decide)) (by rfl) D__law_outs.g D__law_outs.F.kp D__law_outs.b .nil pass0 (pa_cons (pv 0) (pa_cons (pv 3) pa_nil))))
     (pss_cons (ps_if (PW.pt (pw_or (pt_cmpR (in_seqK (K := K)) (pv 1) (pv 3) (by rfl)) (pw_or (pt_not (pt_val (pe_callB (isiK (K := K)) (by rfl) T.b_isinstance (by decide +kernel) (pa_cons (pv 4) (pa_cons (pe_bltn (v := .ty "tuple") (u := .type "tuple") (by rfl) T.b_tuple (by decide +kernel) rfl) pa_nil))))) (pw_or1 (pt_cmpR op_ne (pe_callB (lenK (K := K)) (by rfl) T.b_len PySem.boot_len (pa_cons (pv 4) pa_nil)) (pe_callB (call_max2 rfl) (by rfl) T.b_max (by decide +kernel) (pa_cons (pe_int) (pa_cons (pe_op op_sub (pe_callB (maxT (K := K) rfl hr.units) (by rfl) T.b_max (by decide +kernel) (pa_cons (pv 5) pa_nil)) (pe_int)) pa_nil))) (nomark _))))))
     (pss_one (ps_ret (pe_bl)))
     (pss_nil))
     (pss_cons (ps_for PassesOwn.never rfl (pi_enumT (K := K) (by rfl) T.b_enumerate (pa_cons (pv 4) pa_nil)) (tgtK (K := K) (n := 2) (pgs_cons (pg_name (i := 6) sc__law_is_even.nd rfl (.inr rfl)) (pgs_cons (pg_name (i := 7) sc__law_is_even.nd rfl (.inr rfl)) pgs_nil)))
     (pss_cons (ps_if (pt_not (pt_val (pe_call G__law_is_lot (hr.mono (by decide)) (by rfl) D__law_is_lot.g D__law_is_lot.F.kp D__law_is_lot.b .nil pass0 (pa_cons (pv 0) (pa_cons (pv 7) pa_nil)))))
     (pss_one (ps_ret (pe_bl)))
     (pss_nil))
     (pss_cons (ps_setLc (i := 10) (own := [("_law_point", 8), ("_law_out", 9)]) rfl sc__law_is_even.nd rfl rfl (sw_true rfl rfl rfl (by decide +kernel)) (pi_enumT (K := K) (by rfl) T.b_enumerate (pa_cons (pv 5) pa_nil)) (blkOk_by (own := [("_law_point", 8), ("_law_out", 9)]) (N := nm__law_is_even) (sc := defScope s_law_is_even) (by decide +kernel)) (fun _ _ _ _ _ => tgtK (K := K) (n := 2) (pgs_cons (pg_name (i := 8) sc__law_is_even.nd rfl (.inl rfl)) (pgs_cons (pg_name (i := 9) sc__law_is_even.nd rfl (.inl rfl)) pgs_nil))) (fun _ _ _ _ _ => pts_one (PW.pt (pw_and (pt_cmpR op_gt (pv 9) (pe_op op_add (pv 6) (pe_int)) (nomark _)) (pw_and1 (pt_cmpR (notIn_seqK (K := K)) (pv 8) (pv 7) (by rfl)))))) (fun _ _ _ _ _ => pv 8))
     (pss_cons (ps_if (PW.pt (pw_or (pt_cmpR (op_neL0 (K := K) hr.units) (pv 10) (pe_lst pa_nil) (nomark _)) (pw_or1 (pt_cmpR op_lt (pe_callB (minK (K := K) rfl) (by rfl) T.b_min (by decide +kernel) (pa_cons (pe_lc (own := [("_law_point", 8)]) rfl sc__law_is_even.nd (pi_tup (pv 7)) (blkOk_by (own := [("_law_point", 8)]) (N := nm__law_is_even) (sc := defScope s_law_is_even) (by decide +kernel)) (fun _ _ _ _ _ => pg_name (i := 8) sc__law_is_even.nd rfl (.inl rfl)) (fun _ _ _ _ _ => pts_nil) (fun _ _ _ _ _ => pe_ix (ix_tupK (K := K)) (pv 5) (pv 8) (fun _ _ => rfl))) pa_nil)) (pe_op op_add (pv 6) (pe_int)) (nomark _)))))
     (pss_one (ps_ret (pe_bl)))
     (pss_nil))
     (pss_one (ps_if (pt_cmpR (op_neL0 (K := K) hr.units) (pe_lc (own := [("_law_out", 9), ("_law_other", 11)]) rfl sc__law_is_even.nd (pi_list (pe_call G__law_leads (hr.mono (by decide)) (by rfl) D__law_leads.g D__law_leads.F.kp D__law_leads.b .nil pass0 (pa_cons (pv 0) (pa_cons (pv 3) pa_nil)))) (blkOk_by (own := [("_law_out", 9), ("_law_other", 11)]) (N := nm__law_is_even) (sc := defScope s_law_is_even) (by decide +kernel)) (fun _ _ _ _ _ => tgtK (K := K) (n := 2) (pgs_cons (pg_name (i := 9) sc__law_is_even.nd rfl (.inl rfl)) (pgs_cons (pg_name (i := 11) sc__law_is_even.nd rfl (.inl rfl)) pgs_nil))) (fun _ _ _ _ _ => pts_one (PW.pt (pw_and (pt_cmpR (in_seqK (K := K)) (pv 9) (pv 7) (by rfl)) (pw_and (pt_cmpR (notIn_seqK (K := K)) (pv 11) (pv 7) (by rfl)) (pw_and1 (pt_cmpR op_ne (pv 11) (pv 1) (nomark _))))))) (fun _ _ _ _ _ => pe_int)) (pe_lst pa_nil) (nomark _))
     (pss_one (ps_ret (pe_bl)))
     (pss_nil)))))))
     (pss_one (ps_ret (pe_bl))))))), ?_⟩
  have LB := line_big
  cases ht with
  | @no _ nm h hn =>
    refine ⟨_, rfl, t, _, _, _, _, rfl, .ty _, h.x, isi_noF h hn, _, rfl, ?_⟩
    exact iteT (iteT (q H .refl))
  | @len a xs h hl =>
    refine ⟨_, rfl, _, _, _, _, true, rfl, .ty _, (h.ty).x, isi_yes, true, rfl, iteF ?_⟩
    refine ⟨_, rfl, a, _, rfl, .inr h.sq, rfl, _, rfl, ?_⟩
    rw [decide_int, decide_eq_false (p := (xs.length : Int) = 2) (by omega)]
    exact iteT (iteT (q H .refl))
  | @yes a x y ox oy h hx hy =>
  refine ⟨_, rfl, _, _, _, _, true, rfl, .ty _, (h.ty).x, isi_yes, true, rfl, iteF ?_⟩
  refine ⟨_, rfl, a, _, rfl, .inr h.sq, rfl, _, rfl, iteF ?_⟩
  refine ⟨_, rfl, _, rfl, a, _, 0, _, rfl, rfl, h.sq, atI_nat (j := 0) rfl, v, n, ts, x, ox, rfl, W, hok, by omega, by omega, hx, fun H1 k1 => ?_⟩
  cases c1 : waysO ts ox with
  | false =>
    have q0 := q _ k1
    rw [evenB_w c1] at q0
    exact ⟨_, rfl, iteT q0⟩
  | true =>
  refine ⟨_, rfl, iteF ?_⟩
  obtain ⟨ws, rfl, hw⟩ := waysO_inv c1
  have hwl := hw.1
  cases hx with
  | @yes u _ hu hxx =>
  rw [evenB_in c1] at q
  have h1 := h.ke k1
  have hu1 := hu.ke k1
  refine ⟨_, rfl, a, _, rfl, h1.sq, rfl, _, _, rfl, _, [], rfl, rfl, ?_⟩
  refine ⟨_, rfl, _, rfl, v, n, ts, u, ws, rfl, W.ke k1, by omega, by omega, hu1, fun H2 o2 k2 ho2 => ?_⟩
  have kA := k1.trans k2
  have hu2 := hu1.ke k2
  refine ⟨_, rfl, _, rfl, u, _, rfl, .inr hu2.sq, hr0.flat, flat_ints ws, _, rfl, ?_⟩
  cases c2 : inV root (ws.map V.int) with
  | true =>
    rw [c2] at q
    exact iteT (iteT (q _ kA))
  | false =>
  rw [c2, Bool.not_false, Bool.true_and] at q
  refine iteF ?_
  have hyA := hy.ke kA
  cases oy with
  | none =>
    cases hyA with
    | @no _ nm h hn =>
      refine ⟨_, rfl, y, _, _, _, _, rfl, .ty _, h.x, isi_noF h hn, _, rfl, ?_⟩
      exact iteT (iteT (q _ kA))
  | some ls =>
  cases hyA with
  | @yes l _ hl hlx =>
  refine ⟨_, rfl, _, _, _, _, true, rfl, .ty _, (hl.ty).x, isi_yes, true, rfl, iteF ?_⟩
  have hol := outsL_length n ws
  refine ⟨_, rfl, l, _, rfl, .inr hl.sq, ?_⟩
  refine ⟨_, rfl, o2, _, rfl, sqT_of ho2, by omega, fun m hm hmx => ?_⟩
  have em := mx_is hm hmx
  subst em
  refine ⟨_, _, rfl, rfl, _, _, rfl, ?_⟩
  refine ⟨rfl, _, rfl, ?_⟩
  rw [List.length_map, decide_int]
  have eA : areB n (heldF root ws ts) (some ls) = (decide ((ls.length : Int) = topF (outsL n ws)) && (List.range ls.length).all fun i => closB n (heldF root ws ts) (outsL n ws) (1 + (i : Int)) (ls.getD i (.non, none)).2) := by
    show (decide ((ls.length : Int) = topF (outsL n ((heldF root ws ts).map Prod.fst))) && (List.range ls.length).all fun i => closB n (heldF root ws ts) (outsL n ((heldF root ws ts).map Prod.fst)) (1 + (i : Int)) (ls.getD i (.non, none)).2) = _
    rw [held_fst hwl]
  rw [eA] at q
  show (if (!decide ((ls.length : Int) = topF (outsL n ws))) = true then _ else _)
  by_cases cl : (ls.length : Int) = topF (outsL n ws)
  rotate_left
  · rw [decide_eq_false cl] at q ⊢
    exact iteT (q _ kA)
  rw [decide_eq_true cl, Bool.true_and] at q
  rw [decide_eq_true cl]
  refine iteF ?_
  refine ⟨_, rfl, l, _, rfl, hl.sq, ?_⟩
  refine for_it (walk_enumT (K := K) (a := l) (xs := ls.map Prod.fst)) (fun i σ G => ∃ (y6 y7 y8 y9 y10 y11 : Option V), σ = [some v, some root, some (.ref a), some (.ref u), some (.ref l), some (.ref o2), y6, y7, y8, y9, y10, y11] ∧ Ke H2 G ∧ ∀ j : Nat, j < i → closB n (heldF root ws ts) (outsL n ws) (1 + (j : Int)) (ls.getD j (.non, none)).2 = true) ⟨_, _, _, _, _, _, rfl, .refl, fun _ z => absurd z (Nat.not_lt_zero _)⟩ (fun i σ G _ hG => ?_) (fun i z σ G G' hi hG hy' => ?_) (fun σ G hG => ?_)
  · obtain ⟨_, _, _, _, _, _, _, kG, _⟩ := hG
    exact (hl.ke kG).sq
  rotate_left
  · obtain ⟨_, _, _, _, _, _, rfl, kG, hall⟩ := hG
    have q0 := q _ (kA.trans kG)
    rw [List.length_map] at hall
    rw [List.all_eq_true.mpr fun i hi => hall i (List.mem_range.mp hi)] at q0
    exact q0
  obtain ⟨y6, y7, y8, y9, y10, y11, rfl, kG, hall⟩ := hG
  obtain ⟨T1, z1, y0', rfl, nT, rfl, e1, hxi⟩ := hy'
  cases e1
  have kT := Ke.new (S := fun _ => False) (o := .tup [.int (i : Int), y0']) nT
  have k4 := kG.trans kT
  have gT : (upd G T1 (.tup [.int (i : Int), y0'])) T1 = some (.tup [.int (i : Int), y0']) := upd_same
  generalize upd G T1 _ = G2 at *
  obtain ⟨⟨y0, oo⟩, hoi, rfl⟩ : ∃ p, ls[i]? = some p ∧ p.1 = y0' := by
    have hxi : (ls.map Prod.fst)[i]? = some y0' := hxi
    rw [List.getElem?_map] at hxi
    cases hh : ls[i]? with
    | none => rw [hh] at hxi; cases hxi
    | some p => rw [hh] at hxi; exact ⟨p, rfl, Option.some.inj hxi⟩
  have egd : ls.getD i (.non, none) = (y0, oo) := by rw [List.getD_eq_getElem?_getD, hoi]; rfl
  have il : i < ls.length := (List.getElem?_eq_some_iff.mp hoi).1
  have kC := kA.trans k4
  have no : closB n (heldF root ws ts) (outsL n ws) (1 + (i : Int)) oo = false → ∀ H', Ke G2 H' → Q (.bl false) H' := fun e H' k' => by
    have q0 := q _ (kC.trans k')
    rw [List.all_eq_false.mpr ⟨i, List.mem_range.mpr il, by rw [egd]; dsimp only; rw [e]; decide⟩] at q0
    exact q0
  have yes : closB n (heldF root ws ts) (outsL n ws) (1 + (i : Int)) oo = true → ∀ j : Nat, j < i + 1 → closB n (heldF root ws ts) (outsL n ws) (1 + (j : Int)) (ls.getD j (.non, none)).2 = true := fun e j hj => by
    by_cases cj : j = i
    · rw [cj, egd]
      exact e
    · exact hall j (by omega)
  have hyQ : ThQ G2 y0 oo := (hlx _ (List.mem_of_getElem? hoi)).ke k4
  refine ⟨T1, _, rfl, sqT_of gT, rfl, _, _, rfl, _, [], rfl, rfl, ?_⟩
  refine ⟨_, rfl, _, rfl, v, n, ts, y0, oo, rfl, W.ke kC, by omega, hyQ, fun H3 k3 => ?_⟩
  cases c3 : lotO n oo with
  | false => exact ⟨_, rfl, iteT (no (closB_no c3) _ k3)⟩
  | true =>
  refine ⟨_, rfl, iteF ?_⟩
  obtain ⟨lt, rfl, hlne, hlup, hlbd⟩ := lotO_inv c3
  rw [closB_in c3] at no yes
  have hyQ3 := hyQ.ke k3
  cases hyQ3 with
  | @yes la _ hla hlal _ =>
  rw [List.length_map] at hlal
  have ho3 := Ke.tup (k4.trans k3) ho2
  refine ⟨_, rfl, o2, _, rfl, sqT_of ho3, fun D hD => ?_⟩
  have hatS : ∀ p : Nat, (p : Int) < n → hat (outsL n ws) (p : Int) = (ws.count (p : Int) : Int) := fun p hp => outsL_hat (by omega) hp
  refine lc_it (walk_enumT (K := K) (a := o2) (xs := (outsL n ws).map V.int)) (fun j G => Ke H3 G ∧ ∃ hs : List Int, G D = some (.lst (hs.map V.int)) ∧ hs.length ≤ j ∧ (hs = [] ↔ ∀ p : Nat, p < j → ¬ (1 + (i : Int) < hat (outsL n ws) (p : Int) ∧ (p : Int) ∉ lt))) ⟨Ke.new hD, [], upd_same, Nat.le_refl _, ⟨fun _ p z => absurd z (Nat.not_lt_zero _), fun _ => rfl⟩⟩ (fun j G _ hG => sqT_of (Ke.tup hG.1 ho3)) (fun j x G G' hj hG hy => ?_) (fun G5 hG => ?_)
  · obtain ⟨kG5, hs, gD, hsl, hse⟩ := hG
    obtain ⟨T2, z2, c0, rfl, nT2, rfl, e2, hc0⟩ := hy
    cases e2
    obtain ⟨s0, hs0, rfl⟩ := int_at hc0
    rw [List.length_map] at hj
    have kT2 := Ke.new (S := fun _ => False) (o := .tup [.int (j : Int), .int s0]) nT2
    have k6 := kG5.trans kT2
    have gT2 : (upd G T2 (.tup [.int (j : Int), .int s0])) T2 = some (.tup [.int (j : Int), .int s0]) := upd_same
    have gD6 := Ke.lst kT2 gD
    generalize upd G T2 _ = G6 at *
    have ehat : hat (outsL n ws) (j : Int) = s0 := hat_get hs0
    refine ⟨T2, _, rfl, sqT_of gT2, rfl, _, _, rfl, _, [], rfl, rfl, rfl, ?_⟩
    refine ⟨_, rfl, _, rfl, _, _, rfl, rfl, _, _, rfl, rfl, _, rfl, ?_⟩
    show (if decide ((i : Int) + 1 < s0) = true then _ else _)
    have nx0 : ¬ (1 + (i : Int) < s0 ∧ (j : Int) ∉ lt) → (hs = [] ↔ ∀ p : Nat, p < j + 1 → ¬ (1 + (i : Int) < hat (outsL n ws) (p : Int) ∧ (p : Int) ∉ lt)) := fun hn => by
      rw [hse]
      constructor
      · intro h p hp
        by_cases cp : p = j
        · rw [cp, ehat]
          exact hn
        · exact h p (by omega)
      · exact fun h p hp => h p (by omega)
    by_cases c5 : (i : Int) + 1 < s0
    · rw [decide_eq_true c5]
      refine (if_pos rfl).mpr ?_
      refine ⟨_, rfl, _, rfl, la, _, rfl, .inr (hla.ke k6).sq, rfl, flat_ints lt, _, rfl, ?_⟩
      rw [inV_int]
      by_cases c6 : (j : Int) ∈ lt
      · rw [decide_eq_true c6]
        exact iteF ⟨k6, hs, gD6, by omega, nx0 fun z => z.2 c6⟩
      · rw [decide_eq_false c6]
        refine iteT ⟨_, rfl, _, gD6, by rw [List.length_map]; omega, k6.over hD, hs ++ [(j : Int)], by rw [List.map_append]; exact upd_same, by rw [List.length_append]; exact Nat.succ_le_succ hsl, ?_⟩
        constructor
        · exact fun z => absurd z (by simp)
        · exact fun h => absurd ⟨by rw [ehat]; omega, c6⟩ (h j (by omega))
    · rw [decide_eq_false c5]
      refine (if_neg Bool.false_ne_true).mpr ?_
      exact iteF ⟨k6, hs, gD6, by omega, nx0 fun z => c5 (by omega)⟩
  obtain ⟨kG5, hs, gD, hsl, hse⟩ := hG
  rw [List.length_map, hol] at hse
  refine ⟨_, rfl, by show 0 ≤ sizeLine; decide, fun z nz => ?_⟩
  have kz := kG5.trans (Ke.new (o := .lst []) nz)
  have gDz := lst_new (o := .lst []) nz gD
  have gz : (upd G5 z (.lst [])) z = some (.lst []) := upd_same
  generalize upd G5 z _ = G6 at *
  refine ⟨D, z, _, rfl, rfl, sqL_of gDz, sqL_of gz, _, rfl, ?_⟩
  have ptF : ∀ p : Nat, ptB (outsL n ws) (1 + (i : Int)) lt p = !((decide (1 + (i : Int) < hat (outsL n ws) (p : Int)) && !decide ((p : Int) ∈ lt)) || (decide (hat (outsL n ws) (p : Int) < 1 + (i : Int)) && decide ((p : Int) ∈ lt))) := fun p => rfl
  have nop : ∀ p : Nat, p < n.toNat → ptB (outsL n ws) (1 + (i : Int)) lt p = false → ∀ H', Ke G2 H' → Q (.bl false) H' := fun p hp e => no (by rw [List.all_eq_false.mpr ⟨p, List.mem_range.mpr hp, by rw [e]; decide⟩, Bool.false_and])
  by_cases chs : hs = []
  rotate_left
  · rw [show (hs.map V.int).isEmpty = false by cases hs with | nil => exact absurd rfl chs | cons _ _ => rfl]
    have : ∃ p : Nat, p < n.toNat ∧ 1 + (i : Int) < hat (outsL n ws) (p : Int) ∧ (p : Int) ∉ lt := Classical.byContradiction fun z => chs (hse.mpr fun p hp y => z ⟨p, hp, y⟩)
    obtain ⟨p, hp, y1, y2⟩ := this
    exact iteT (iteT (nop p hp (by rw [ptF, decide_eq_true y1, decide_eq_false y2]; rfl) _ (k3.trans kz)))
  rw [chs]
  refine iteF ?_
  have hall1 := hse.mp chs
  have hoz := Ke.tup kz ho3
  refine ⟨_, rfl, la, rfl, ⟨_, (hla.ke kz).sq⟩, fun D2 nD2 => ?_⟩
  refine lc_tup (K := K) (a := la) (xs := lt.map V.int) (fun j G => Ke G6 G ∧ G D2 = some (.lst (((lt.take j).map fun p => (ws.count p : Int)).map V.int))) ⟨Ke.new nD2, upd_same⟩ (fun j G _ hG => ((hla.ke kz).ke hG.1).sq) (fun j x G hx' hG => ?_) (fun G7 hG => ?_)
  · obtain ⟨k7, g7⟩ := hG
    obtain ⟨p0, hp0, rfl⟩ := int_at hx'
    have hb := hlbd p0 (List.mem_of_getElem? hp0)
    refine ⟨rfl, yes_ite ?_⟩
    refine ⟨_, rfl, _, rfl, o2, _, _, _, rfl, rfl, sqT_of (Ke.tup k7 hoz), hat_at hb.1 (by omega), ?_⟩
    refine ⟨_, g7, by rw [List.length_map, List.length_map, List.length_take]; omega, k7.over nD2, ?_⟩
    rw [take_next hp0, List.map_append, List.map_append, upd_same, outsL_hat hb.1 hb.2]
    rfl
  obtain ⟨k7, g7⟩ := hG
  rw [List.length_map, List.take_length] at g7
  have hltl : 0 < lt.length := List.length_pos_iff.mpr hlne
  refine ⟨D2, _, rfl, sqL_of g7, by rw [List.length_map]; omega, fun m hm hmin => ?_⟩
  refine ⟨_, rfl, _, _, rfl, rfl, _, _, rfl, rfl, _, rfl, ?_⟩
  show (if decide (m < (i : Int) + 1) = true then _ else _)
  have k37 := (k3.trans kz).trans k7
  by_cases c7 : m < (i : Int) + 1
  · rw [decide_eq_true c7]
    obtain ⟨p, hp, em⟩ := List.mem_map.mp hm
    have hb := hlbd p hp
    have e0 : ((p.toNat : Nat) : Int) = p := by omega
    refine (if_pos rfl).mpr (nop p.toNat (by omega) ?_ _ k37)
    rw [ptF, e0, outsL_hat hb.1 hb.2, decide_eq_true (show (ws.count p : Int) < 1 + (i : Int) by omega), decide_eq_true hp, Bool.and_true, Bool.or_true]
    rfl
  rw [decide_eq_false c7]
  refine (if_neg Bool.false_ne_true).mpr ?_
  have hpt : (List.range n.toNat).all (ptB (outsL n ws) (1 + (i : Int)) lt) = true := List.all_eq_true.mpr fun p hp => by
    have hp := List.mem_range.mp hp
    rw [ptF]
    by_cases cp : (p : Int) ∈ lt
    · have := hmin _ (List.mem_map.mpr ⟨(p : Int), cp, rfl⟩)
      rw [hatS p (by omega), decide_eq_true cp, decide_eq_false (show ¬ (ws.count (p : Int) : Int) < 1 + (i : Int) by omega)]
      simp
    · rw [decide_eq_false cp, decide_eq_false (fun z => hall1 p (by omega) ⟨z, cp⟩)]
      simp
  rw [hpt, Bool.true_and] at no yes
  have kD := kC.trans k37
  have huD := (hu2.ke k4).ke k37
  have hlaD := (hla.ke kz).ke k7
  refine ⟨_, rfl, _, rfl, v, n, ts, u, ws, rfl, W.ke kD, .inr huD, hwl, by omega, fun H8 l8 rs8 k8 nl8 hl8 hL8 => ?_⟩
  have hrl8 := hL8.length
  have hfl8 : (leadsF ts ws).length ≤ 500 := by unfold leadsF; rw [List.length_map, List.length_zip]; omega
  refine ⟨l8, rfl, ⟨_, sqL_of hl8⟩, fun D3 nD3 => ?_⟩
  refine lc_list (K := K) (a := l8) (xs := rs8) (fun j G => Ke H8 G ∧ ∃ bs : List V, G D3 = some (.lst bs) ∧ bs.length ≤ j ∧ (bs = [] ↔ ∀ a b, (a, b) ∈ (leadsF ts ws).take j → ¬ (a ∈ lt ∧ b ∉ lt ∧ V.int b ≠ root))) ⟨Ke.new nD3, [], upd_same, Nat.le_refl _, ⟨fun _ _ _ z => (nomatch z), fun _ => rfl⟩⟩ (fun j G _ hG => sqL_of (Ke.lst hG.1 hl8)) (fun j r G hr hG => ?_) (fun G9 hG => ?_)
  · obtain ⟨k9, bs, gD3, hbl, hbe⟩ := hG
    obtain ⟨⟨ea, eb⟩, qe, hei, rfl, he⟩ := (hL8.ke k9).get hr
    have hla9 := (hlaD.ke k8).ke k9
    have hsc : scal (.int eb) root = true := by rcases hr0 with rfl | ⟨i, rfl⟩ <;> rfl
    have jl := (List.getElem?_eq_some_iff.mp hei).1
    have nx0 : ¬ (ea ∈ lt ∧ eb ∉ lt ∧ V.int eb ≠ root) → (bs = [] ↔ ∀ a b, (a, b) ∈ (leadsF ts ws).take (j + 1) → ¬ (a ∈ lt ∧ b ∉ lt ∧ V.int b ≠ root)) := fun hn => by
      rw [hbe]
      constructor
      · intro h a b hab
        rw [take_next hei] at hab
        rcases List.mem_append.mp hab with hab | hab
        · exact h a b hab
        · have := List.mem_singleton.mp hab
          cases this
          exact hn
      · exact fun h a b hab => h a b (by rw [take_next hei]; exact List.mem_append_left _ hab)
    refine ⟨qe, _, rfl, sqT_of he, rfl, _, _, rfl, _, [], rfl, rfl, rfl, ?_⟩
    refine ⟨_, rfl, _, rfl, la, _, rfl, .inr hla9.sq, rfl, flat_ints lt, _, rfl, ?_⟩
    rw [inV_int]
    by_cases ca : ea ∈ lt
    rotate_left
    · rw [decide_eq_false ca]
      refine (if_neg Bool.false_ne_true).mpr ?_
      exact iteF ⟨k9, bs, gD3, by omega, nx0 fun z => ca z.1⟩
    rw [decide_eq_true ca]
    refine (if_pos rfl).mpr ?_
    refine ⟨_, rfl, _, rfl, la, _, rfl, .inr hla9.sq, rfl, flat_ints lt, _, rfl, ?_⟩
    rw [inV_int]
    by_cases cb : eb ∈ lt
    · rw [decide_eq_true cb]
      refine iteF (iteF ?_)
      exact ⟨k9, bs, gD3, by omega, nx0 fun z => z.2.1 cb⟩
    rw [decide_eq_false cb]
    refine iteT ?_
    refine ⟨_, rfl, _, rfl, hsc, _, rfl, ?_⟩
    by_cases cr : V.int eb = root
    · rw [decide_eq_true cr]
      exact iteF ⟨k9, bs, gD3, by omega, nx0 fun z => z.2.2 cr⟩
    rw [decide_eq_false cr]
    refine iteT ⟨_, gD3, by omega, k9.over nD3, bs ++ [.int 1], upd_same, by rw [List.length_append]; exact Nat.succ_le_succ hbl, ?_⟩
    constructor
    · exact fun z => absurd z (by simp)
    · exact fun h => absurd ⟨ca, cb, cr⟩ (h ea eb (by rw [take_next hei]; exact List.mem_append_right _ List.mem_cons_self))
  obtain ⟨k9, bs, gD3, hbl, hbe⟩ := hG
  rw [hrl8, List.take_length] at hbe
  refine ⟨by show 0 ≤ sizeLine; decide, fun z3 nz3 => ?_⟩
  have k10 := k9.trans (Ke.new (o := .lst []) nz3)
  have gD4 := lst_new (o := .lst []) nz3 gD3
  refine ⟨D3, z3, _, rfl, rfl, sqL_of gD4, sqL_of upd_same, _, rfl, ?_⟩
  have hH := held_all (root := root) hw hok lt
  have kE := k37.trans (k8.trans k10)
  by_cases cbs : bs = []
  · rw [cbs]
    exact iteF ⟨_, _, _, _, _, _, rfl, k4.trans kE, yes (hH.mpr (hbe.mp cbs))⟩
  · rw [show bs.isEmpty = false by cases bs with | nil => exact absurd rfl cbs | cons _ _ => rfl]
    refine iteT (no ?_ _ kE)
    cases ch : (heldF root ws ts).all (heB lt) with
    | false => rfl
    | true => exact absurd (hbe.mpr (hH.mp ch)) cbs
theorem ok__law_bent_lots {P : Program} {w : World} {K : PySem.W.Frag} {mg : Str → Option Value} {base : Heap} {tb : List Addr} {f : Addr} {fd : FuncData} {f__law_next : Addr} {fd__law_next : FuncData} (T : Blt mg) (D__law_bent_lots : DefAt K mg "_law_bent_lots" s_law_bent_lots ["_law_deck_here", "_law_web_here", "_law_lots"] f fd) (D__law_next : DefAt K mg "_law_next" s_law_next ["_law_deck_here"] f__law_next fd__law_next) (G__law_next : FnOk P w K mg base CX0 1 f__law_next fd__law_next ["_law_deck_here"] (sp__law_next K tb)) :
    FnOk P w K mg base CX0 2 f fd ["_law_deck_here", "_law_web_here", "_law_lots"] (sp__law_bent_lots K tb) := by
  refine D__law_bent_lots.ok sc__law_bent_lots (fun vs H Q E h => by
    obtain ⟨p, v, n, ts, l, rs, lots, rfl, hd, W, hn1, hn2, hl, hLo, hb, hll, q⟩ := h
    all_goals rfl) fun A outer s H vs Q E hr h => ?_
  obtain ⟨p, v, n, ts, l, rs, lots, rfl, hd, W, hn1, hn2, hl, hLo, hb, hll, q⟩ := h
  refine ⟨_, pss_cons (ps_set (i := 3) sc__law_bent_lots.nd rfl (.inl rfl) (pe_op op_mod (pe_call G__law_next (hr.mono (by decide)) (by rfl) D__law_next.g D__law_next.F.kp D__law_next.b .nil pass0 (pa_cons (pv 0) pa_nil)) (pe_int)))
     (pss_cons (ps_set (i := 4) sc__law_bent_lots.nd rfl (.inl rfl) (pe_op op_mod (pe_call G__law_next (hr.mono (by decide)) (by rfl) D__law_next.g D__law_next.F.kp D__law_next.b .nil pass0 (pa_cons (pv 0) pa_nil)) (pe_callB (call_max2 rfl) (by rfl) T.b_max (by decide +kernel) (pa_cons (pe_int) (pa_cons (pe_callB (lenK (K := K)) (by rfl) T.b_len PySem.boot_len (pa_cons (pv 2) pa_nil)) pa_nil)))))
     (pss_cons (ps_set (i := 5) sc__law_bent_lots.nd rfl (.inl rfl) (pe_op op_mod (pe_call G__law_next (hr.mono (by decide)) (by rfl) D__law_next.g D__law_next.F.kp D__law_next.b .nil pass0 (pa_cons (pv 0) pa_nil)) (pe_op op_add (pe_ix (ix_tupK (K := K)) (pv 1) (pe_int) (fun _ _ => rfl)) (pe_int))))
     (pss_cons (ps_set (i := 6) sc__law_bent_lots.nd rfl (.inl rfl) (pe_ix (ix_listK (K := K)) (pe_op op_cat (pe_callTy (listK (K := K)) (by rfl) T.b_list (by decide +kernel) (pa_cons (pv 2) pa_nil)) (pe_lst (pa_cons (pe_tup (pa_cons (pe_int) pa_nil)) pa_nil))) (pv 4) (fun _ _ => rfl)))
     (pss_cons (ps_set (i := 7) sc__law_bent_lots.nd rfl (.inl rfl) (pe_lst (pa_cons (pe_callTy (tupleK (K := K)) (by rfl) T.b_tuple (by decide +kernel) (pa_cons (pe_callB (cr_sortedSetB rfl) (by rfl) T.b_sorted (by decide +kernel) (pa_cons (pe_callTy (cr_setT rfl) (by rfl) T.b_set (by decide +kernel) (pa_cons (pe_op (catU (K := K)) (pv 6) (pe_tup (pa_cons (pv 5) pa_nil))) pa_nil)) pa_nil)) pa_nil)) (pa_cons (pe_slice (sl_tupU (K := K)) (pv 6) po_none (po_some (pe_un un_neg (pe_int)))) (pa_cons (pe_slice (sl_tupU (K := K)) (pv 6) (po_some (pe_int)) po_none) (pa_cons ((pe_revT (K := K)) (pv 6)) (pa_cons (pe_op (catU (K := K)) (pv 6) (pe_slice (sl_tupU (K := K)) (pv 6) (po_some (pe_un un_neg (pe_int))) po_none)) (pa_cons (pe_callTy (listK (K := K)) (by rfl) T.b_list (by decide +kernel) (pa_cons (pv 6) pa_nil)) (pa_cons (pe_tup pa_nil) (pa_cons (pe_non) pa_nil))))))))))
     (pss_cons (ps_if (pt_cmpR op_lt (pv 3) (pe_int) (nomark _))
     (pss_one (ps_ret (pe_op (catV (K := K)) (pe_op (catV (K := K)) (pe_slice (sl_tupV (K := K)) (pv 2) po_none (po_some (pv 4))) (pe_tup (pa_cons (pe_ix (ix_listK (K := K)) (pv 7) (pv 3) (fun _ _ => rfl)) pa_nil))) (pe_slice (sl_tupV (K := K)) (pv 2) (po_some (pe_op op_add (pv 4) (pe_int))) po_none))))
     (pss_nil))
     (pss_one (ps_ret (pe_ix (ix_listK (K := K)) (pe_lst (pa_cons (pe_slice (sl_tupV (K := K)) (pv 2) po_none (po_some (pe_un un_neg (pe_int)))) (pa_cons (pe_op (catV (K := K)) (pv 2) (pe_tup (pa_cons (pv 6) pa_nil))) (pa_cons (pe_callTy (listK (K := K)) (by rfl) T.b_list (by decide +kernel) (pa_cons (pv 2) pa_nil)) (pa_cons ((pe_revT (K := K)) (pv 2)) pa_nil))))) (pe_op op_sub (pv 3) (pe_int)) (fun _ _ => rfl))))))))), ?_⟩
  have LB := line_big
  obtain ⟨tw, wu, rrs, rfl, htw, hwu, hTs⟩ := id W
  have hrl := hLo.length
  refine ⟨_, rfl, p, rfl, hd, fun r1 G1 _ _ k1 => ⟨_, _, rfl, rfl, by show (0 : Int) < 12; decide, ?_⟩⟩
  have e1 := emod_bds r1 (n := 12) (by decide)
  dsimp -proj -iota only
  generalize r1 % 12 = kind at *
  refine ⟨_, rfl, p, rfl, k1.d, fun r2 G2 _ _ k2 => ⟨_, rfl, l, _, rfl, .inr ((hl.dk k1 hd).dk k2 k1.d).sq, _, _, rfl, _, _, rfl, rfl, by show (0 : Int) < (if (rs.length : Int) > 1 then (rs.length : Int) else 1); split <;> omega, ?_⟩⟩
  have e2 := emod_bds r2 (n := (if (rs.length : Int) > 1 then (rs.length : Int) else 1)) (by split <;> omega)
  obtain ⟨b, eb⟩ : ∃ b : Nat, r2 % (if (rs.length : Int) > 1 then (rs.length : Int) else 1) = (b : Int) := ⟨(r2 % (if (rs.length : Int) > 1 then (rs.length : Int) else 1)).toNat, by omega⟩
  have bl : b < rs.length + 1 := by
    rw [eb] at e2
    split at e2 <;> omega
  dsimp -proj -iota only
  rw [eb]
  have k12 := k1.trans k2
  refine ⟨_, rfl, p, rfl, k12.d, fun r3 G3 _ _ k3 => ⟨_, rfl, tw, _, 0, _, rfl, rfl, sqT_of (k3.tup k12.d (k12.tup hd htw)), atI_nat (j := 0) rfl, _, _, rfl, rfl, _, _, rfl, rfl, by show (0 : Int) < n + 1; omega, ?_⟩⟩
  have k13 := k12.trans k3
  dsimp -proj -iota only
  generalize r3 % (n + 1) = pt at *
  have hl3 := hl.dk k13 hd
  have hL3 := hLo.mono fun _ _ z => k13.tup hd z
  have d3 := k13.d
  refine ⟨_, rfl, l, _, rfl, .inr hl3.sq, fun l1 nl1 => ?_⟩
  have m1 := Ke.new (S := fun _ => False) (o := .lst rs) nl1
  have gl1 : (upd G3 l1 (.lst rs)) l1 = some (.lst rs) := upd_same
  generalize upd G3 l1 _ = J1 at *
  refine ⟨by show 1 ≤ sizeLine; decide, fun z0 nz0 => ?_⟩
  have m2 := m1.trans (Ke.new (o := .tup [.int 0]) nz0)
  have gz0 : (upd J1 z0 (.tup [.int 0])) z0 = some (.tup [.int 0]) := upd_same
  replace gl1 := lst_new (o := .tup [.int 0]) nz0 gl1
  generalize upd J1 z0 _ = J2 at *
  refine ⟨by show 1 ≤ sizeLine; decide, fun l2 nl2 => ?_⟩
  have m3 := m2.trans (Ke.new (o := .lst [.ref z0]) nl2)
  have gl2 : (upd J2 l2 (.lst [.ref z0])) l2 = some (.lst [.ref z0]) := upd_same
  replace gl1 := lst_new (o := .lst [.ref z0]) nl2 gl1
  replace gz0 := tup_new (o := .lst [.ref z0]) nl2 gz0
  generalize upd J2 l2 _ = J3 at *
  refine ⟨l1, l2, _, _, rfl, rfl, gl1, gl2, by show rs.length + 1 ≤ sizeLine; omega, fun l3 nl3 => ?_⟩
  have m4 := m3.trans (Ke.new (o := .lst (rs ++ [.ref z0])) nl3)
  have gl3 : (upd J3 l3 (.lst (rs ++ [.ref z0]))) l3 = some (.lst (rs ++ [.ref z0])) := upd_same
  replace gz0 := tup_new (o := .lst (rs ++ [.ref z0])) nl3 gz0
  have hLA : Lots (upd J3 l3 (.lst (rs ++ [.ref z0]))) (rs ++ [.ref z0]) (lots ++ [[0]]) := (hL3.ke m4).append (Lots.one gz0)
  have hx : (rs ++ [V.ref z0])[b]? = some ((rs ++ [V.ref z0])[b]'(by rw [List.length_append]; exact bl)) := List.getElem?_eq_getElem _
  generalize (rs ++ [V.ref z0])[b]'_ = x at hx
  obtain ⟨ls, q0, hli, rfl, hq0⟩ := hLA.get hx
  have hll60 : ls.length ≤ 60 := by
    rcases List.mem_append.mp (List.mem_of_getElem? hli) with h | h
    · exact hb _ h
    · rw [List.mem_singleton.mp h]
      decide
  refine ⟨_, rfl, l3, _, _, _, rfl, rfl, sqL_of gl3, atI_nat (j := b) hx, ?_⟩
  clear hLA gl1 gl2 gz0 hx gl3
  generalize upd J3 l3 _ = J4 at *
  have kD := k13.ke m4
  have hl4 := hl.dk kD hd
  have hR : ThJ J4 rs := ((hL3.ke m4)).j fun x h => Nat.le_trans (hb x h) (by decide)
  have dJ := kD.d
  clear m1 m2 m3
  have hI : ∀ G, ThJ G (ls.map V.int) := fun G => ThJ.ints ls
  have hlm : (ls.map V.int).length ≤ 60 := by rw [List.length_map]; exact hll60
  have cl : ∀ lo hi, (cutV (ls.map V.int) lo hi).length ≤ 60 := fun lo hi => by have := cutV_length (ls.map V.int) lo hi; omega
  refine ⟨_, rfl, _, rfl, by show 1 ≤ sizeLine; decide, fun z1 nz1 => ?_⟩
  have kz1 := Ke.new (S := fun _ => False) (o := .tup [.int pt]) nz1
  have gz1 : (upd J4 z1 (.tup [.int pt])) z1 = some (.tup [.int pt]) := upd_same
  generalize upd J4 z1 _ = S1 at *
  refine ⟨q0, z1, _, _, rfl, rfl, Ke.tup kz1 hq0, gz1, by show _ + 1 ≤ sizeLine; omega, fun c1 S2 kc1 hc1 => ?_⟩
  have k4 := kz1.trans kc1
  refine ⟨c1, ls ++ [pt], rfl, sqT_of (by rw [List.map_append]; exact hc1), by rw [List.length_append]; show _ + 1 ≤ 1000; omega, fun s0 cn ns0 hcn => ?_⟩
  rw [List.length_append] at hcn
  refine ⟨s0, _, _, rfl, upd_same, by have : [pt].length = 1 := rfl; omega, fun ss l5 hsp hsm hsl nl5 => ?_⟩
  generalize SetO _ s0 _ cn = O0 at *
  have kS2 := (k4.trans (Ke.new (o := O0) ns0)).trans (Ke.new (o := .lst (ss.map V.int)) nl5)
  refine ⟨l5, _, rfl, .inl ⟨sqL_of upd_same, fun t5 nt5 => ?_⟩⟩
  have kS3 := kS2.trans (Ke.new (o := .tup (ss.map V.int)) nt5)
  have hs1 : ThJ (upd (upd (upd S2 s0 O0) l5 (.lst (ss.map V.int))) t5 (.tup (ss.map V.int))) [.ref t5] := .cons ((ThJ.ints ss).tup (.inl upd_same) (by rw [List.length_map]; have : [pt].length = 1 := rfl; omega)) .nil
  generalize upd (upd (upd S2 s0 _) l5 _) t5 _ = S5 at *
  refine ⟨_, rfl, _, rfl, _, rfl, q0, _, rfl, Ke.tup kS3 hq0, fun c2 S6 kc2 hc2 => ?_⟩
  have k6 := kS3.trans kc2
  have hs2 := (hs1.ke kc2).cons ((hI S6).cut.tup (.inl hc2) (by have := cl none (some (-1)); omega))
  refine ⟨_, rfl, _, rfl, q0, _, rfl, Ke.tup k6 hq0, fun c3 S7 kc3 hc3 => ?_⟩
  have k7 := k6.trans kc3
  have hs3 := (hs2.ke kc3).cons ((hI S7).cut.tup (.inl hc3) (by have := cl (some 1) none; omega))
  refine ⟨_, rfl, q0, _, rfl, sqT_of (Ke.tup k7 hq0), fun c4 nc4 => ?_⟩
  have k8 := k7.trans (Ke.new (o := .tup (ls.map V.int).reverse) nc4)
  have hs4 := (hs3.new (o := .tup (ls.map V.int).reverse) nc4).cons ((hI _).rev.tup (.inl upd_same) (by rw [List.length_reverse]; omega))
  generalize upd S7 c4 _ = S8 at *
  refine ⟨_, rfl, _, rfl, _, rfl, _, rfl, q0, _, rfl, Ke.tup k8 hq0, fun c5 S9 kc5 hc5 => ?_⟩
  have k9 := k8.trans kc5
  refine ⟨q0, c5, _, _, rfl, rfl, Ke.tup k9 hq0, hc5, by have := cl (some (-1)) none; omega, fun c6 S10 kc6 hc6 => ?_⟩
  have k10 := k9.trans kc6
  have hs6 := ((hs4.ke kc5).ke kc6).cons (((hI S10).app (hI S10).cut).tup (.inl hc6) (by rw [List.length_append]; have := cl (some (-1)) none; omega))
  refine ⟨_, rfl, q0, _, rfl, .inr (sqT_of (Ke.tup k10 hq0)), fun c7 nc7 => ?_⟩
  have k11 := k10.trans (Ke.new (o := .lst (ls.map V.int)) nc7)
  have hs7 := (hs6.new (o := .lst (ls.map V.int)) nc7).cons (tj_lst upd_same)
  generalize upd S10 c7 _ = S11 at *
  refine ⟨by show 0 ≤ sizeLine; decide, fun c8 nc8 => ?_⟩
  have k12' := k11.trans (Ke.new (o := .tup []) nc8)
  have hs8 := (hs7.new (o := .tup []) nc8).cons ((ThJ.nil.new nc8).tup (.inl upd_same))
  generalize upd S11 c8 _ = S12 at *
  refine ⟨by show 8 ≤ sizeLine; decide, fun L nL => ?_⟩
  have hs9 : ThJ (upd S12 L (.lst [.ref t5, .ref c2, .ref c3, .ref c4, .ref c6, .ref c7, .ref c8, .non])) [.ref t5, .ref c2, .ref c3, .ref c4, .ref c6, .ref c7, .ref c8, .non] := ((hs8.cons tj_non).sub fun y hy => by simp only [List.mem_cons, List.not_mem_nil, or_false] at hy ⊢; rcases hy with h | h | h | h | h | h | h | h <;> simp [h]).new nL
  have kL := k12'.trans (Ke.new (o := .lst [.ref t5, .ref c2, .ref c3, .ref c4, .ref c6, .ref c7, .ref c8, .non]) nL)
  have gL : (upd S12 L (.lst [.ref t5, .ref c2, .ref c3, .ref c4, .ref c6, .ref c7, .ref c8, .non])) L = some (.lst [.ref t5, .ref c2, .ref c3, .ref c4, .ref c6, .ref c7, .ref c8, .non]) := upd_same
  clear hs1 hs2 hs3 hs4 hs6 hs7 hs8 hc1 hc2 hc3 hc5 hc6
  generalize hod : [V.ref t5, .ref c2, .ref c3, .ref c4, .ref c6, .ref c7, .ref c8, .non] = od at *
  have hol : od.length = 8 := by rw [← hod]; rfl
  clear hod
  generalize upd S12 L _ = SL at *
  have hlL := hl4.ke kL
  have hqL := Ke.tup kL hq0
  have hRL := hR.ke kL
  have crl : ∀ lo hi, (cutV rs lo hi).length ≤ 300 := fun lo hi => by have := cutV_length rs lo hi; omega
  refine ⟨_, rfl, _, _, rfl, rfl, _, rfl, iteB (fun hk => ?_) (fun hk => ?_)⟩
  · have hk : kind < 8 := of_decide_eq_true hk
    obtain ⟨kn, rfl⟩ : ∃ kn : Nat, kind = (kn : Int) := ⟨kind.toNat, by omega⟩
    have hy : od[kn]? = some (od[kn]'(by omega)) := List.getElem?_eq_getElem (by omega)
    generalize od[kn]'_ = y at hy
    have hyD := hs9.all y (List.mem_of_getElem? hy)
    refine ⟨_, rfl, _, rfl, _, rfl, l, _, rfl, .inr hlL, fun d1 T1 kd1 hd1 _ => ?_⟩
    refine ⟨_, rfl, _, rfl, L, _, _, _, rfl, rfl, sqL_of (Ke.lst kd1 gL), atI_nat (j := kn) hy, by show 1 ≤ sizeLine; decide, fun d2' nd2 => ?_⟩
    have kd2 := kd1.trans (Ke.new (o := .tup [y]) nd2)
    have gd2 : (upd T1 d2' (.tup [y])) d2' = some (.tup [y]) := upd_same
    have hd1' := hd1.new (o := .tup [y]) nd2
    generalize upd T1 d2' _ = T2 at *
    refine ⟨d1, d2', _, _, rfl, rfl, hd1', .inl gd2, by have := crl none (some (b : Int)); show _ + 1 ≤ sizeLine; omega, fun d4 T3 kd3 hd4 _ => ?_⟩
    have kd3' := kd2.trans kd3
    refine ⟨_, rfl, _, rfl, _, _, rfl, rfl, _, rfl, l, _, rfl, .inr (hlL.ke kd3'), fun d5 T4 kd4 hd5 _ => ?_⟩
    refine ⟨d4, d5, _, _, rfl, rfl, hd4.ke kd4, hd5, by rw [List.length_append]; have := crl none (some (b : Int)); have := crl (some ((b : Int) + 1)) none; show _ + 1 + _ ≤ sizeLine; omega, fun d6 T5 kd5 hd6 _ => ?_⟩
    have kA := (kd3'.trans kd4).trans kd5
    refine q _ _ (kD.ke (kL.trans kA)) (((((hRL.ke kA).cut).app (.cons (hyD.ke kA) .nil)).app ((hRL.ke kA).cut)).tup hd6 ?_)
    rw [List.length_append, List.length_append]
    have := crl none (some (b : Int))
    have := crl (some ((b : Int) + 1)) none
    show _ + 1 + _ ≤ 1000
    omega
  · have hk : ¬ kind < 8 := of_decide_eq_false hk
    refine ⟨_, rfl, _, rfl, _, rfl, l, _, rfl, .inr hlL, fun d1 T1 kd1 hd1 _ => ?_⟩
    have u1 : ThJ T1 [.ref d1] := .cons ((hRL.ke kd1).cut.tup hd1 (by have := crl none (some (-1)); omega)) .nil
    refine ⟨_, rfl, _, rfl, by show 1 ≤ sizeLine; decide, fun z2 nz2 => ?_⟩
    have kd2 := kd1.trans (Ke.new (o := .tup [.ref q0]) nz2)
    have gz2 : (upd T1 z2 (.tup [.ref q0])) z2 = some (.tup [.ref q0]) := upd_same
    have u2 := u1.new (o := .tup [.ref q0]) nz2
    generalize upd T1 z2 _ = T2 at *
    refine ⟨l, z2, _, _, rfl, rfl, .inr (hlL.ke kd2), .inl gz2, by show rs.length + 1 ≤ sizeLine; omega, fun d3' T3 kd3 hd3 _ => ?_⟩
    have kd3' := kd2.trans kd3
    have u3 := (u2.ke kd3).cons (((hRL.ke kd3').app (.cons ((ThJ.ints ls).tup (.inl (Ke.tup kd3' hqL)) (by omega)) .nil)).tup hd3 (by rw [List.length_append]; show rs.length + 1 ≤ 1000; omega))
    refine ⟨_, rfl, l, _, rfl, .inr (hlL.ke kd3').sq, fun d4 nd4 => ?_⟩
    have kd4 := kd3'.trans (Ke.new (o := .lst rs) nd4)
    have u4 := (u3.new (o := .lst rs) nd4).cons (tj_lst upd_same)
    generalize upd T3 d4 _ = T4 at *
    refine ⟨_, rfl, l, _, rfl, (hlL.ke kd4).sq, fun d5 nd5 => ?_⟩
    have kd5 := kd4.trans (Ke.new (o := .tup rs.reverse) nd5)
    have u5 := (u4.new (o := .tup rs.reverse) nd5).cons (((hRL.ke kd4).rev.new nd5).tup (.inl upd_same) (by rw [List.length_reverse]; omega))
    generalize upd T4 d5 _ = T5 at *
    refine ⟨by show 4 ≤ sizeLine; decide, fun L2 nL2 => ?_⟩
    have kL2 := kd5.trans (Ke.new (o := .lst [.ref d1, .ref d3', .ref d4, .ref d5]) nL2)
    have u6 : ThJ (upd T5 L2 (.lst [.ref d1, .ref d3', .ref d4, .ref d5])) [.ref d1, .ref d3', .ref d4, .ref d5] := (u5.sub fun y hy => by simp only [List.mem_cons, List.not_mem_nil, or_false] at hy ⊢; rcases hy with h | h | h | h <;> simp [h]).new nL2
    obtain ⟨kn, ekn⟩ : ∃ kn : Nat, kind - 8 = (kn : Int) := ⟨(kind - 8).toNat, by omega⟩
    have hkn : kn < 4 := by omega
    have hy : [V.ref d1, .ref d3', .ref d4, .ref d5][kn]? = some ([V.ref d1, .ref d3', .ref d4, .ref d5][kn]'hkn) := List.getElem?_eq_getElem hkn
    generalize [V.ref d1, .ref d3', .ref d4, .ref d5][kn]'hkn = y at hy
    refine ⟨_, rfl, _, _, rfl, rfl, L2, _, _, _, rfl, rfl, sqL_of upd_same, (by rw [ekn]; exact atI_nat (j := kn) hy), ?_⟩
    exact q _ _ (kD.ke (kL.trans kL2)) (u6.all y (List.mem_of_getElem? hy))
theorem ok__law_odd_points {P : Program} {w : World} {K : PySem.W.Frag} {mg : Str → Option Value} {base : Heap} {tb : List Addr} {f : Addr} {fd : FuncData} {f__law_next : Addr} {fd__law_next : FuncData} (T : Blt mg) (D__law_odd_points : DefAt K mg "_law_odd_points" s_law_odd_points ["_law_deck_here", "_law_lots"] f fd) (D__law_next : DefAt K mg "_law_next" s_law_next ["_law_deck_here"] f__law_next fd__law_next) (G__law_next : FnOk P w K mg base CX0 1 f__law_next fd__law_next ["_law_deck_here"] (sp__law_next K tb)) :
    FnOk P w K mg base CX0 2 f fd ["_law_deck_here", "_law_lots"] (sp__law_odd_points K tb) := by
  refine D__law_odd_points.ok sc__law_odd_points (fun vs H Q E h => by
    obtain ⟨p, l, rs, lots, rfl, hd, hl, hLo, hb, hne, hll, q⟩ := h
    all_goals rfl) fun A outer s H vs Q E hr h => ?_
  obtain ⟨p, l, rs, lots, rfl, hd, hl, hLo, hb, hne, hll, q⟩ := h
  refine ⟨_, pss_cons (ps_set (i := 2) sc__law_odd_points.nd rfl (.inl rfl) (pe_op op_mod (pe_call G__law_next (hr.mono (by decide)) (by rfl) D__law_next.g D__law_next.F.kp D__law_next.b .nil pass0 (pa_cons (pv 0) pa_nil)) (pe_callB (call_max2 rfl) (by rfl) T.b_max (by decide +kernel) (pa_cons (pe_int) (pa_cons (pe_callB (lenK (K := K)) (by rfl) T.b_len PySem.boot_len (pa_cons (pv 1) pa_nil)) pa_nil)))))
     (pss_cons (ps_set (i := 3) sc__law_odd_points.nd rfl (.inl rfl) (pe_ix (ix_listK (K := K)) (pe_op op_cat (pe_callTy (listK (K := K)) (by rfl) T.b_list (by decide +kernel) (pa_cons (pv 1) pa_nil)) (pe_lst (pa_cons (pe_tup (pa_cons (pe_int) pa_nil)) pa_nil))) (pv 2) (fun _ _ => rfl)))
     (pss_cons (ps_set (i := 4) sc__law_odd_points.nd rfl (.inl rfl) (pe_op op_mod (pe_call G__law_next (hr.mono (by decide)) (by rfl) D__law_next.g D__law_next.F.kp D__law_next.b .nil pass0 (pa_cons (pv 0) pa_nil)) (pe_callB (lenK (K := K)) (by rfl) T.b_len PySem.boot_len (pa_cons (pv 3) pa_nil))))
     (pss_cons (ps_set (i := 5) sc__law_odd_points.nd rfl (.inl rfl) (pe_lst pa_nil))
     (pss_cons (ps_for PassesOwn.never rfl (pi_list (pe_lst (pa_cons (pe_bl) (pa_cons (pe_bl) (pa_cons (pe_non) (pa_cons (pe_str) (pa_cons (pe_lst (pa_cons (pe_int) pa_nil)) (pa_cons (pe_tup (pa_cons (pe_int) pa_nil)) pa_nil)))))))) (pg_name (i := 6) sc__law_odd_points.nd rfl (.inl rfl))
     (pss_one (ps_expr (pe_bm PySem.F.plainAttrs_list PySem.F.slot_list_append PySem.F.type_list_append mt_append (pv 5) (pa_cons (pe_op (catV (K := K)) (pe_op (catV (K := K)) (pe_slice (sl_tupV (K := K)) (pv 1) po_none (po_some (pv 2))) (pe_tup (pa_cons (pe_op (catU (K := K)) (pe_op (catU (K := K)) (pe_slice (sl_tupU (K := K)) (pv 3) po_none (po_some (pv 4))) (pe_tup (pa_cons (pv 6) pa_nil))) (pe_slice (sl_tupU (K := K)) (pv 3) (po_some (pe_op op_add (pv 4) (pe_int))) po_none)) pa_nil))) (pe_slice (sl_tupV (K := K)) (pv 1) (po_some (pe_op op_add (pv 2) (pe_int))) po_none)) pa_nil)))))
     (pss_one (ps_ret (pv 5))))))), ?_⟩
  have LB := line_big
  have hrl := hLo.length
  refine ⟨_, rfl, p, rfl, hd, fun r2 G2 _ _ k2 => ⟨_, rfl, l, _, rfl, .inr (hl.dk k2 hd).sq, _, _, rfl, _, _, rfl, rfl, by show (0 : Int) < (if (rs.length : Int) > 1 then (rs.length : Int) else 1); split <;> omega, ?_⟩⟩
  have e2 := emod_bds r2 (n := (if (rs.length : Int) > 1 then (rs.length : Int) else 1)) (by split <;> omega)
  obtain ⟨b, eb⟩ : ∃ b : Nat, r2 % (if (rs.length : Int) > 1 then (rs.length : Int) else 1) = (b : Int) := ⟨(r2 % (if (rs.length : Int) > 1 then (rs.length : Int) else 1)).toNat, by omega⟩
  have bl : b < rs.length + 1 := by
    rw [eb] at e2
    split at e2 <;> omega
  dsimp -proj -iota only
  rw [eb]
  have hl3 := hl.dk k2 hd
  have hL3 := hLo.mono fun _ _ z => k2.tup hd z
  have d3 := k2.d
  refine ⟨_, rfl, l, _, rfl, .inr hl3.sq, fun l1 nl1 => ?_⟩
  have m1 := Ke.new (S := fun _ => False) (o := .lst rs) nl1
  have gl1 : (upd G2 l1 (.lst rs)) l1 = some (.lst rs) := upd_same
  generalize upd G2 l1 _ = J1 at *
  refine ⟨by show 1 ≤ sizeLine; decide, fun z0 nz0 => ?_⟩
  have m2 := m1.trans (Ke.new (o := .tup [.int 0]) nz0)
  have gz0 : (upd J1 z0 (.tup [.int 0])) z0 = some (.tup [.int 0]) := upd_same
  replace gl1 := lst_new (o := .tup [.int 0]) nz0 gl1
  generalize upd J1 z0 _ = J2 at *
  refine ⟨by show 1 ≤ sizeLine; decide, fun l2 nl2 => ?_⟩
  have m3 := m2.trans (Ke.new (o := .lst [.ref z0]) nl2)
  have gl2 : (upd J2 l2 (.lst [.ref z0])) l2 = some (.lst [.ref z0]) := upd_same
  replace gl1 := lst_new (o := .lst [.ref z0]) nl2 gl1
  replace gz0 := tup_new (o := .lst [.ref z0]) nl2 gz0
  generalize upd J2 l2 _ = J3 at *
  refine ⟨l1, l2, _, _, rfl, rfl, gl1, gl2, by show rs.length + 1 ≤ sizeLine; omega, fun l3 nl3 => ?_⟩
  have m4 := m3.trans (Ke.new (o := .lst (rs ++ [.ref z0])) nl3)
  have gl3 : (upd J3 l3 (.lst (rs ++ [.ref z0]))) l3 = some (.lst (rs ++ [.ref z0])) := upd_same
  replace gz0 := tup_new (o := .lst (rs ++ [.ref z0])) nl3 gz0
  have hLA : Lots (upd J3 l3 (.lst (rs ++ [.ref z0]))) (rs ++ [.ref z0]) (lots ++ [[0]]) := (hL3.ke m4).append (Lots.one gz0)
  have hx : (rs ++ [V.ref z0])[b]? = some ((rs ++ [V.ref z0])[b]'(by rw [List.length_append]; exact bl)) := List.getElem?_eq_getElem _
  generalize (rs ++ [V.ref z0])[b]'_ = x at hx
  obtain ⟨ls, q0, hli, rfl, hq0⟩ := hLA.get hx
  have hls : ls.length ≤ 60 ∧ ls ≠ [] := by
    rcases List.mem_append.mp (List.mem_of_getElem? hli) with h | h
    · exact ⟨hb _ h, hne _ h⟩
    · rw [List.mem_singleton.mp h]
      exact ⟨by decide, fun z => nomatch z⟩
  have hlp : 0 < ls.length := List.length_pos_iff.mpr hls.2
  refine ⟨_, rfl, l3, _, _, _, rfl, rfl, sqL_of gl3, atI_nat (j := b) hx, ?_⟩
  clear hLA gl1 gl2 gz0 hx gl3
  generalize upd J3 l3 _ = J4 at *
  have kD0 := ((Dk.refl hd).trans k2).ke m4
  have dJ0 := kD0.d
  refine ⟨_, rfl, p, rfl, dJ0, fun r3 G4 _ _ k3 => ⟨_, rfl, q0, _, rfl, .inr (sqT_of (k3.tup dJ0 hq0)), _, _, rfl, rfl, by show (0 : Int) < ((ls.map V.int).length : Int); rw [List.length_map]; omega, ?_⟩⟩
  dsimp -proj -iota only
  generalize r3 % ((ls.map V.int).length : Int) = pl at *
  have kD := kD0.trans k3
  have hq4 := k3.tup dJ0 hq0
  have hl4 := hl.dk kD hd
  have hR : ThJ G4 rs := (hLo.mono fun _ _ z => kD.tup hd z).j fun x h => Nat.le_trans (hb x h) (by decide)
  have dJ := kD.d
  clear m1 m2 m3 hL3 hl3 hq0
  have hlm : (ls.map V.int).length ≤ 60 := by rw [List.length_map]; exact hls.1
  have cl : ∀ lo hi, (cutV (ls.map V.int) lo hi).length ≤ 60 := fun lo hi => by have := cutV_length (ls.map V.int) lo hi; omega
  have crl : ∀ lo hi, (cutV rs lo hi).length ≤ 300 := fun lo hi => by have := cutV_length rs lo hi; omega
  refine ⟨by show 0 ≤ sizeLine; decide, fun D nD => ?_⟩
  have nDH : H D = none := kD.k.dom _ nD
  have kE := kD.ke (Ke.new (o := .lst []) nD)
  have gD : (upd G4 D (.lst [])) D = some (.lst []) := upd_same
  replace hq4 := tup_new (o := .lst []) nD hq4
  replace hl4 := hl4.new (o := .lst []) nD
  replace hR := hR.new (o := .lst []) nD
  generalize upd G4 D _ = G5 at *
  refine ⟨by show 1 ≤ sizeLine; decide, fun a1 na1 => ?_⟩
  have v1 := Ke.new (S := fun _ => False) (o := .lst [.int 0]) na1
  have s1 : ThJ (upd G5 a1 (.lst [.int 0])) [.ref a1] := .cons (tj_lst upd_same) .nil
  generalize upd G5 a1 _ = G6 at *
  refine ⟨by show 1 ≤ sizeLine; decide, fun a2 na2 => ?_⟩
  have v2 := v1.trans (Ke.new (o := .tup [.int 0]) na2)
  have s2 := (s1.new (o := .tup [.int 0]) na2).cons ((ThJ.cons (tj_int 0) .nil).tup (.inl upd_same))
  generalize upd G6 a2 _ = G7 at *
  refine ⟨by show 6 ≤ sizeLine; decide, fun LL nLL => ?_⟩
  have s3 : ThJ (upd G7 LL (.lst [.bl true, .bl false, .non, .str (Str.ofString "0"), .ref a1, .ref a2])) [.bl true, .bl false, .non, .str (Str.ofString "0"), .ref a1, .ref a2] := ((((((s2.cons (tj_bl true)).cons (tj_bl false)).cons tj_non).cons (tj_str (Str.ofString "0")))).sub fun y hy => by simp only [List.mem_cons, List.not_mem_nil, or_false] at hy ⊢; rcases hy with h | h | h | h | h | h <;> simp [h]).new nLL
  have v3 := v2.trans (Ke.new (o := .lst [.bl true, .bl false, .non, .str (Str.ofString "0"), .ref a1, .ref a2]) nLL)
  have gLL : (upd G7 LL (.lst [.bl true, .bl false, .non, .str (Str.ofString "0"), .ref a1, .ref a2])) LL = some (.lst [.bl true, .bl false, .non, .str (Str.ofString "0"), .ref a1, .ref a2]) := upd_same
  have LLD : LL ≠ D := fun z => by
    have := Ke.lst v2 gD
    rw [← z, nLL] at this
    cases this
  refine ⟨LL, rfl, ⟨_, sqL_of gLL⟩, ?_⟩
  generalize hod : [V.bl true, .bl false, .non, .str (Str.ofString "0"), .ref a1, .ref a2] = od at *
  have hol : od.length = 6 := by rw [← hod]; rfl
  clear hod
  generalize upd G7 LL _ = GL at *
  refine for_list (K := K) (a := LL) (xs := od) (fun j σ G => ∃ (y6 : Option V) (ys : List V), σ = [some (.ref p), some (.ref l), some (.int (b : Int)), some (.ref q0), some (.int pl), some (.ref D), y6] ∧ Dk p H G ∧ G D = some (.lst ys) ∧ ThJ G ys ∧ ys.length ≤ j ∧ ThJ G od ∧ G LL = some (.lst od) ∧ G q0 = some (.tup (ls.map V.int)) ∧ TF G l rs ∧ ThJ G rs) ⟨_, [], rfl, kE.ke v3, Ke.lst v3 gD, .nil, Nat.le_refl _, s3, gLL, Ke.tup v3 hq4, hl4.ke v3, hR.ke v3⟩ (fun j σ G _ hG => ?_) (fun j y σ G hy hG => ?_) (fun σ G hG => ?_)
  · obtain ⟨_, _, _, _, _, _, _, _, g, _⟩ := hG
    exact sqL_of g
  · obtain ⟨y6, ys, rfl, kG, gDG, hY, hyl, hO, gLG, hqG, hlG, hRG⟩ := hG
    refine ⟨_, rfl, .inl ⟨rfl, _, sqL_of gDG⟩, ?_⟩
    refine ⟨_, rfl, _, rfl, _, rfl, l, _, rfl, .inr hlG, fun d1 T1 kd1 hd1 _ => ?_⟩
    refine ⟨_, rfl, _, rfl, _, rfl, q0, _, rfl, Ke.tup kd1 hqG, fun c1 T2 kd2 hc1 => ?_⟩
    refine ⟨_, rfl, by show 1 ≤ sizeLine; decide, fun c2 nc2 => ?_⟩
    have kd3 := (kd1.trans kd2).trans (Ke.new (o := .tup [y]) nc2)
    have gc2 : (upd T2 c2 (.tup [y])) c2 = some (.tup [y]) := upd_same
    replace hc1 := tup_new (o := .tup [y]) nc2 hc1
    replace hd1 := (hd1.ke kd2).new (o := .tup [y]) nc2
    generalize upd T2 c2 _ = T3 at *
    refine ⟨c1, c2, _, _, rfl, rfl, hc1, gc2, by have := cl none (some pl); show _ + 1 ≤ sizeLine; omega, fun c3 T4 kd4 hc3 => ?_⟩
    have kd5 := kd3.trans kd4
    refine ⟨_, rfl, _, rfl, _, _, rfl, rfl, _, rfl, q0, _, rfl, Ke.tup kd5 hqG, fun c4 T5 kd6 hc4 => ?_⟩
    have kd7 := kd5.trans kd6
    refine ⟨c3, c4, _, _, rfl, rfl, Ke.tup kd6 hc3, hc4, by rw [List.length_append]; have := cl none (some pl); have := cl (some (pl + 1)) none; show _ + 1 + _ ≤ sizeLine; omega, fun c5 T6 kd8 hc5 => ⟨by show 1 ≤ sizeLine; decide, fun c6 nc6 => ?_⟩⟩
    have kd9 := kd7.trans kd8
    have hyD := (hO.all y (List.mem_of_getElem? hy)).ke kd9
    have x5 : DQ 5 T6 (.ref c5) := ((((ThJ.ints ls).cut).app (.cons hyD .nil)).app ((ThJ.ints ls).cut)).tup (.inl hc5) (by rw [List.length_append, List.length_append]; have := cl none (some pl); have := cl (some (pl + 1)) none; show _ + 1 + _ ≤ 1000; omega)
    have kn6 := Ke.new (S := fun _ => False) (o := .tup [.ref c5]) nc6
    have gc6 : (upd T6 c6 (.tup [.ref c5])) c6 = some (.tup [.ref c5]) := upd_same
    replace x5 := x5.ke kn6
    have hd1' := (hd1.ke ((kd4.trans kd6).trans kd8)).ke kn6
    have kdA := kd9.trans kn6
    generalize upd T6 c6 _ = T7 at *
    refine ⟨d1, c6, _, _, rfl, rfl, hd1', .inl gc6, by have := crl none (some (b : Int)); show _ + 1 ≤ sizeLine; omega, fun d4 T8 ke1 hd4 _ => ?_⟩
    have kdB := kdA.trans ke1
    refine ⟨_, rfl, _, rfl, _, _, rfl, rfl, _, rfl, l, _, rfl, .inr (hlG.ke kdB), fun d5 T9 ke2 hd5 _ => ?_⟩
    refine ⟨d4, d5, _, _, rfl, rfl, hd4.ke ke2, hd5, by rw [List.length_append]; have := crl none (some (b : Int)); have := crl (some ((b : Int) + 1)) none; show _ + 1 + _ ≤ sizeLine; omega, fun d6 T10 ke3 hd6 _ => ?_⟩
    have kdC := (kdB.trans ke2).trans ke3
    have hRT := hRG.ke kdC
    have x6 : DQ 5 T10 (.ref d6) := ((hRT.cut.app (.cons (x5.ke ((ke1.trans ke2).trans ke3)) .nil)).app hRT.cut).tup hd6 (by rw [List.length_append, List.length_append]; have := crl none (some (b : Int)); have := crl (some ((b : Int) + 1)) none; show _ + 1 + _ ≤ 1000; omega)
    have gDF := Ke.lst kdC gDG
    have hj := (List.getElem?_eq_some_iff.mp hy).1
    refine ⟨D, _, _, rfl, rfl, gDF, by omega, ?_⟩
    exact ⟨_, ys ++ [.ref d6], rfl, (kG.ke kdC).over hd nDH, upd_same, ((hY.ke kdC).app (.cons x6 .nil)).put gDF, by rw [List.length_append]; exact Nat.succ_le_succ hyl, (hO.ke kdC).put gDF, by rw [upd_ne LLD]; exact Ke.lst kdC gLG, by rw [upd_ne (ne_of (Ke.tup kdC hqG) gDF fun z => nomatch z)]; exact Ke.tup kdC hqG, (hlG.ke kdC).put gDF, hRT.put gDF⟩
  · obtain ⟨y6, ys, rfl, kG, gDG, hY, hyl, _⟩ := hG
    exact ⟨_, rfl, q _ D ys kG nDH gDG hY (by omega)⟩
theorem ok__law_bent_ways {P : Program} {w : World} {K : PySem.W.Frag} {mg : Str → Option Value} {base : Heap} {tb : List Addr} {f : Addr} {fd : FuncData} {f__law_next : Addr} {fd__law_next : FuncData} (T : Blt mg) (D__law_bent_ways : DefAt K mg "_law_bent_ways" s_law_bent_ways ["_law_deck_here", "_law_web_here", "_law_ways"] f fd) (D__law_next : DefAt K mg "_law_next" s_law_next ["_law_deck_here"] f__law_next fd__law_next) (G__law_next : FnOk P w K mg base CX0 1 f__law_next fd__law_next ["_law_deck_here"] (sp__law_next K tb)) :
    FnOk P w K mg base CX0 2 f fd ["_law_deck_here", "_law_web_here", "_law_ways"] (sp__law_bent_ways K tb) := by
  refine D__law_bent_ways.ok sc__law_bent_ways (fun vs H Q E h => by
    obtain ⟨p, v, n, ts, w, ws, rfl, hd, W, hn1, hn2, hw, hwl, q⟩ := h
    all_goals rfl) fun A outer s H vs Q E hr h => ?_
  obtain ⟨p, v, n, ts, w, ws, rfl, hd, W, hn1, hn2, hw, hwl, q⟩ := h
  refine ⟨_, pss_cons (ps_set (i := 3) sc__law_bent_ways.nd rfl (.inl rfl) (pe_op op_mod (pe_call G__law_next (hr.mono (by decide)) (by rfl) D__law_next.g D__law_next.F.kp D__law_next.b .nil pass0 (pa_cons (pv 0) pa_nil)) (pe_callB (call_max2 rfl) (by rfl) T.b_max (by decide +kernel) (pa_cons (pe_int) (pa_cons (pe_callB (lenK (K := K)) (by rfl) T.b_len PySem.boot_len (pa_cons (pv 2) pa_nil)) pa_nil)))))
     (pss_cons (ps_set (i := 4) sc__law_bent_ways.nd rfl (.inl rfl) (pe_ix (ix_listK (K := K)) (pe_lst (pa_cons (pe_ix (ix_tupK (K := K)) (pv 1) (pe_int) (fun _ _ => rfl)) (pa_cons (pe_un un_neg (pe_int)) (pa_cons (pe_bl) (pa_cons (pe_non) (pa_cons (pe_str) (pa_cons (pe_tupF (pa_cons (pe_int) pa_nil)) (pa_cons (pe_op op_mod (pe_call G__law_next (hr.mono (by decide)) (by rfl) D__law_next.g D__law_next.F.kp D__law_next.b .nil pass0 (pa_cons (pv 0) pa_nil)) (pe_ix (ix_tupK (K := K)) (pv 1) (pe_int) (fun _ _ => rfl))) pa_nil)))))))) (pe_op op_mod (pe_call G__law_next (hr.mono (by decide)) (by rfl) D__law_next.g D__law_next.F.kp D__law_next.b .nil pass0 (pa_cons (pv 0) pa_nil)) (pe_int)) (fun _ _ => rfl)))
     (pss_one (ps_ret (pe_ix (ix_listK (K := K)) (pe_lst (pa_cons (pe_op (catF (K := K)) (pe_op (catF (K := K)) (pe_slice (sl_tupF (K := K)) (pv 2) po_none (po_some (pv 3))) (pe_tupF (pa_cons (pv 4) pa_nil))) (pe_slice (sl_tupF (K := K)) (pv 2) (po_some (pe_op op_add (pv 3) (pe_int))) po_none)) (pa_cons (pe_slice (sl_tupF (K := K)) (pv 2) po_none (po_some (pe_un un_neg (pe_int)))) (pa_cons (pe_callTy (listK (K := K)) (by rfl) T.b_list (by decide +kernel) (pa_cons (pv 2) pa_nil)) pa_nil)))) (pe_op op_mod (pe_call G__law_next (hr.mono (by decide)) (by rfl) D__law_next.g D__law_next.F.kp D__law_next.b .nil pass0 (pa_cons (pv 0) pa_nil)) (pe_int)) (fun _ _ => rfl))))), ?_⟩
  have LB := line_big
  obtain ⟨tw, wu, rrs, rfl, htw, hwu, hTs⟩ := id W
  have hwm : (ws.map V.int).length = ws.length := List.length_map _
  refine ⟨_, rfl, p, rfl, hd, fun r1 G1 _ _ k1 => ⟨_, rfl, w, _, rfl, .inr (hw.dk k1 hd).sq, _, _, rfl, _, _, rfl, rfl, by show (0 : Int) < (if ((ws.map V.int).length : Int) > 1 then ((ws.map V.int).length : Int) else 1); split <;> omega, ?_⟩⟩
  have e1 := emod_bds r1 (n := (if ((ws.map V.int).length : Int) > 1 then ((ws.map V.int).length : Int) else 1)) (by split <;> omega)
  dsimp -proj -iota only
  generalize r1 % (if ((ws.map V.int).length : Int) > 1 then ((ws.map V.int).length : Int) else 1) = at_ at *
  refine ⟨_, rfl, tw, _, 0, _, rfl, rfl, sqT_of (k1.tup hd htw), atI_nat (j := 0) rfl, _, rfl, by show 1 ≤ sizeLine; decide, fun z0 G2 nz0 kz hz0 => ?_⟩
  have k2 := k1.ke kz
  refine ⟨_, rfl, p, rfl, k2.d, fun r2 G3 _ _ k3 => ⟨_, rfl, tw, _, 0, _, rfl, rfl, sqT_of (k3.tup k2.d (k2.tup hd htw)), atI_nat (j := 0) rfl, _, _, rfl, rfl, by show (0 : Int) < n; omega, ?_⟩⟩
  have k23 := k2.trans k3
  have hz3 := hz0.dk k3 k2.d
  dsimp -proj -iota only
  generalize r2 % n = pt at *
  refine ⟨by show 7 ≤ sizeLine; decide, fun L nL => ?_⟩
  have k4 := k23.ke (Ke.new (o := .lst [.int n, .int (-1), .bl true, .non, .str (Str.ofString "0"), .ref z0, .int pt]) nL)
  have gL : (upd G3 L (.lst [.int n, .int (-1), .bl true, .non, .str (Str.ofString "0"), .ref z0, .int pt])) L = some (.lst [.int n, .int (-1), .bl true, .non, .str (Str.ofString "0"), .ref z0, .int pt]) := upd_same
  have hz4 := hz3.new (o := .lst [.int n, .int (-1), .bl true, .non, .str (Str.ofString "0"), .ref z0, .int pt]) nL
  have lp : L ≠ p := (k23.d.ne nL).symm
  generalize upd G3 L _ = G4 at *
  refine ⟨_, rfl, p, rfl, k4.d, fun r3 G5 _ _ k5 => ⟨_, _, rfl, rfl, by show (0 : Int) < 7; decide, ?_⟩⟩
  have e3 := emod_bds r3 (n := 7) (by decide)
  dsimp -proj -iota only
  obtain ⟨c, ec⟩ : ∃ c : Nat, r3 % 7 = (c : Int) := ⟨(r3 % 7).toNat, by omega⟩
  rw [ec]
  have hc : c < 7 := by omega
  have k45 := k4.trans k5
  have hz5 := hz4.dk k5 k4.d
  have gL5 := k5.lst gL lp
  have hx : [V.int n, .int (-1), .bl true, .non, .str (Str.ofString "0"), .ref z0, .int pt][c]? = some ([V.int n, .int (-1), .bl true, .non, .str (Str.ofString "0"), .ref z0, .int pt][c]'hc) := List.getElem?_eq_getElem hc
  generalize [V.int n, .int (-1), .bl true, .non, .str (Str.ofString "0"), .ref z0, .int pt][c]'hc = x at hx
  have tx : ∃ m, TyF G5 x m := by
    have := List.mem_of_getElem? hx
    simp only [List.mem_cons, List.not_mem_nil, or_false] at this
    rcases this with rfl | rfl | rfl | rfl | rfl | rfl | rfl
    · exact ⟨_, .int _⟩
    · exact ⟨_, .int _⟩
    · exact ⟨_, .bl _⟩
    · exact ⟨_, .non⟩
    · exact ⟨_, .str _⟩
    · exact ⟨_, .tf hz5⟩
    · exact ⟨_, .int _⟩
  refine ⟨L, _, _, _, rfl, rfl, sqL_of gL5, atI_nat (j := c) hx, ?_⟩
  have hw5 := hw.dk k45 hd
  have cl : ∀ lo hi, (cutV (ws.map V.int) lo hi).length ≤ 500 := fun lo hi => by have := cutV_length (ws.map V.int) lo hi; omega
  have ty : ∀ (G : Hp) lo hi, ∀ y ∈ cutV (ws.map V.int) lo hi, ∃ m, TyF G y m := fun G lo hi y hy => by
    obtain ⟨i, _, rfl⟩ := List.mem_map.mp (cutV_mem hy)
    exact ⟨_, .int i⟩
  refine ⟨_, rfl, _, rfl, _, rfl, w, _, rfl, hw5, fun c1 E1 kf1 hc1 => ?_⟩
  refine ⟨_, rfl, by show 1 ≤ sizeLine; decide, fun c2 E2 nc2 kf2 hc2 => ?_⟩
  refine ⟨c1, c2, _, _, rfl, rfl, hc1.ke kf2, hc2, by have := cl none (some at_); show _ + 1 ≤ sizeLine; omega, fun c3 E3 kf3 hc3 => ?_⟩
  have kA := (kf1.trans kf2).trans kf3
  refine ⟨_, rfl, _, rfl, _, _, rfl, rfl, _, rfl, w, _, rfl, hw5.ke kA, fun c4 E4 kf4 hc4 => ?_⟩
  refine ⟨c3, c4, _, _, rfl, rfl, hc3.ke kf4, hc4, by rw [List.length_append]; have := cl none (some at_); have := cl (some (at_ + 1)) none; show _ + 1 + _ ≤ sizeLine; omega, fun c5 E5 kf5 hc5 => ?_⟩
  have kB := (kA.trans kf4).trans kf5
  have f1 : ThF E5 (.ref c5) _ := .yes hc5 fun y hy => by
    rcases List.mem_append.mp hy with hy | hy
    · rcases List.mem_append.mp hy with hy | hy
      · exact ty _ _ _ y hy
      · rw [List.mem_singleton.mp hy]
        exact tx.imp fun _ z => z.ke kB
    · exact ty _ _ _ y hy
  refine ⟨_, rfl, _, rfl, _, rfl, w, _, rfl, hw5.ke kB, fun c6 E6 kf6 hc6 => ?_⟩
  have kC := kB.trans kf6
  have f2 : ThF E6 (.ref c6) _ := .yes hc6 (ty _ _ _)
  refine ⟨_, rfl, w, _, rfl, .inr (hw5.ke kC).sq, fun c7 nc7 => ?_⟩
  have kD := kC.trans (Ke.new (o := .lst (ws.map V.int)) nc7)
  have f3 : ThF (upd E6 c7 (.lst (ws.map V.int))) (.ref c7) none := .no (.lst upd_same) (by decide)
  replace f1 := (f1.ke kf6).ke (Ke.new (o := .lst (ws.map V.int)) nc7)
  replace f2 := f2.ke (Ke.new (o := .lst (ws.map V.int)) nc7)
  generalize upd E6 c7 _ = E7 at *
  refine ⟨by show 3 ≤ sizeLine; decide, fun LL nLL => ?_⟩
  have kE := kD.trans (Ke.new (o := .lst [.ref c5, .ref c6, .ref c7]) nLL)
  have gLL : (upd E7 LL (.lst [.ref c5, .ref c6, .ref c7])) LL = some (.lst [.ref c5, .ref c6, .ref c7]) := upd_same
  replace f1 := f1.ke (Ke.new (o := .lst [.ref c5, .ref c6, .ref c7]) nLL)
  replace f2 := f2.ke (Ke.new (o := .lst [.ref c5, .ref c6, .ref c7]) nLL)
  replace f3 := f3.ke (Ke.new (o := .lst [.ref c5, .ref c6, .ref c7]) nLL)
  generalize upd E7 LL _ = E8 at *
  have k6 := k45.ke kE
  have lpp : LL ≠ p := fun z => by
    have := k6.d
    rw [z] at gLL
    exact (k45.ke kD).d.ne nLL z.symm
  refine ⟨_, rfl, p, rfl, k6.d, fun r4 E9 _ _ k7 => ⟨_, _, rfl, rfl, by show (0 : Int) < 3; decide, ?_⟩⟩
  have e4 := emod_bds r4 (n := 3) (by decide)
  dsimp -proj -iota only
  obtain ⟨u, eu⟩ : ∃ u : Nat, r4 % 3 = (u : Int) := ⟨(r4 % 3).toNat, by omega⟩
  rw [eu]
  have hu : u < 3 := by omega
  have hy : [V.ref c5, .ref c6, .ref c7][u]? = some ([V.ref c5, .ref c6, .ref c7][u]'hu) := List.getElem?_eq_getElem hu
  generalize [V.ref c5, .ref c6, .ref c7][u]'hu = y at hy
  refine ⟨LL, _, _, _, rfl, rfl, sqL_of (k7.lst gLL lpp), atI_nat (j := u) hy, ?_⟩
  have := List.mem_of_getElem? hy
  simp only [List.mem_cons, List.not_mem_nil, or_false] at this
  rcases this with rfl | rfl | rfl
  · exact q _ _ _ (k6.trans k7) (f1.dk k7 k6.d)
  · exact q _ _ _ (k6.trans k7) (f2.dk k7 k6.d)
  · exact q _ _ _ (k6.trans k7) (f3.dk k7 k6.d)
theorem ok_law {P : Program} {w : World} {K : PySem.W.Frag} {mg : Str → Option Value} {base : Heap} {tb : List Addr} {f : Addr} {fd : FuncData} {f_right_even : Addr} {fd_right_even : FuncData} {f__law_deck : Addr} {fd__law_deck : FuncData} {f__law_web : Addr} {fd__law_web : FuncData} {f__law_is_true : Addr} {fd__law_is_true : FuncData} {f__law_odd_things : Addr} {fd__law_odd_things : FuncData} {f__law_root : Addr} {fd__law_root : FuncData} {f__law_root_ways : Addr} {fd__law_root_ways : FuncData} {f__law_even_paper : Addr} {fd__law_even_paper : FuncData} {f__law_is_even : Addr} {fd__law_is_even : FuncData} {f__law_bent_lots : Addr} {fd__law_bent_lots : FuncData} {f__law_odd_points : Addr} {fd__law_odd_points : FuncData} {f__law_bent_ways : Addr} {fd__law_bent_ways : FuncData} (T : Blt mg) (D_law : DefAt K mg "law" s_law ["_law_script"] f fd) (D_right_even : DefAt K mg "right_even" s_right_even ["web", "root", "thing"] f_right_even fd_right_even) (G_right_even : FnOk P w K mg base CX0 10 f_right_even fd_right_even ["web", "root", "thing"] (sp_right_even K tb)) (D__law_deck : DefAt K mg "_law_deck" s_law_deck ["_law_script", "_law_many"] f__law_deck fd__law_deck) (G__law_deck : FnOk P w K mg base CX0 2 f__law_deck fd__law_deck ["_law_script", "_law_many"] (sp__law_deck K tb)) (D__law_web : DefAt K mg "_law_web" s_law_web ["_law_deck_here", "_law_points", "_law_most"] f__law_web fd__law_web) (G__law_web : FnOk P w K mg base CX0 4 f__law_web fd__law_web ["_law_deck_here", "_law_points", "_law_most"] (sp__law_web K tb)) (D__law_is_true : DefAt K mg "_law_is_true" s_law_is_true ["_law_found", "_law_due"] f__law_is_true fd__law_is_true) (G__law_is_true : FnOk P w K mg base CX0 1 f__law_is_true fd__law_is_true ["_law_found", "_law_due"] (sp__law_is_true K tb)) (D__law_odd_things : DefAt K mg "_law_odd_things" s_law_odd_things [] f__law_odd_things fd__law_odd_things) (G__law_odd_things : FnOk P w K mg base CX0 1 f__law_odd_things fd__law_odd_things [] (sp__law_odd_things K tb)) (D__law_root : DefAt K mg "_law_root" s_law_root ["_law_deck_here", "_law_web_here"] f__law_root fd__law_root) (G__law_root : FnOk P w K mg base CX0 2 f__law_root fd__law_root ["_law_deck_here", "_law_web_here"] (sp__law_root K tb)) (D__law_root_ways : DefAt K mg "_law_root_ways" s_law_root_ways ["_law_deck_here", "_law_web_here", "_law_root_here"] f__law_root_ways fd__law_root_ways) (G__law_root_ways : FnOk P w K mg base CX0 2 f__law_root_ways fd__law_root_ways ["_law_deck_here", "_law_web_here", "_law_root_here"] (sp__law_root_ways K tb)) (D__law_even_paper : DefAt K mg "_law_even_paper" s_law_even_paper ["_law_web_here", "_law_root_here", "_law_ways"] f__law_even_paper fd__law_even_paper) (G__law_even_paper : FnOk P w K mg base CX0 3 f__law_even_paper fd__law_even_paper ["_law_web_here", "_law_root_here", "_law_ways"] (sp__law_even_paper K tb)) (D__law_is_even : DefAt K mg "_law_is_even" s_law_is_even ["_law_web_here", "_law_root_here", "_law_thing"] f__law_is_even fd__law_is_even) (G__law_is_even : FnOk P w K mg base CX0 3 f__law_is_even fd__law_is_even ["_law_web_here", "_law_root_here", "_law_thing"] (sp__law_is_even K tb)) (D__law_bent_lots : DefAt K mg "_law_bent_lots" s_law_bent_lots ["_law_deck_here", "_law_web_here", "_law_lots"] f__law_bent_lots fd__law_bent_lots) (G__law_bent_lots : FnOk P w K mg base CX0 2 f__law_bent_lots fd__law_bent_lots ["_law_deck_here", "_law_web_here", "_law_lots"] (sp__law_bent_lots K tb)) (D__law_odd_points : DefAt K mg "_law_odd_points" s_law_odd_points ["_law_deck_here", "_law_lots"] f__law_odd_points fd__law_odd_points) (G__law_odd_points : FnOk P w K mg base CX0 2 f__law_odd_points fd__law_odd_points ["_law_deck_here", "_law_lots"] (sp__law_odd_points K tb)) (D__law_bent_ways : DefAt K mg "_law_bent_ways" s_law_bent_ways ["_law_deck_here", "_law_web_here", "_law_ways"] f__law_bent_ways fd__law_bent_ways) (G__law_bent_ways : FnOk P w K mg base CX0 2 f__law_bent_ways fd__law_bent_ways ["_law_deck_here", "_law_web_here", "_law_ways"] (sp__law_bent_ways K tb)) :
    FnOk P w K mg base CX0 11 f fd ["_law_script"] (sp_law K tb) := by
  refine D_law.ok sc_law (fun vs H Q E h => by
    obtain ⟨a, ns, rfl, hS, hlen, hTb, q⟩ := h
    all_goals rfl) fun A outer s H vs Q E hr h => ?_
  obtain ⟨a, ns, rfl, hS, hlen, hTb, q⟩ := h
  refine ⟨_, pss_cons (ps_set (i := 1) sc_law.nd rfl (.inr rfl) (pe_call G__law_deck (hr.mono (by decide)) (by rfl) D__law_deck.g D__law_deck.F.kp D__law_deck.b .nil pass0 (pa_cons (pv 0) (pa_cons (pe_int) pa_nil))))
     (pss_cons (ps_set (i := 2) sc_law.nd rfl (.inr rfl) (pe_call G__law_web (hr.mono (by decide)) (by rfl) D__law_web.g D__law_web.F.kp D__law_web.b .nil pass0 (pa_cons (pv 1) (pa_cons (pe_int) (pa_cons (pe_int) pa_nil)))))
     (pss_cons (ps_set (i := 3) sc_law.nd rfl (.inr rfl) (pe_call G__law_root (hr.mono (by decide)) (by rfl) D__law_root.g D__law_root.F.kp D__law_root.b .nil pass0 (pa_cons (pv 1) (pa_cons (pv 2) pa_nil))))
     (pss_cons (ps_asg (pe_call G__law_even_paper (hr.mono (by decide)) (by rfl) D__law_even_paper.g D__law_even_paper.F.kp D__law_even_paper.b .nil pass0 (pa_cons (pv 2) (pa_cons (pv 3) (pa_cons (pe_call G__law_root_ways (hr.mono (by decide)) (by rfl) D__law_root_ways.g D__law_root_ways.F.kp D__law_root_ways.b .nil pass0 (pa_cons (pv 1) (pa_cons (pv 2) (pa_cons (pv 3) pa_nil)))) pa_nil)))) (tgtK (K := K) (n := 2) (pgs_cons (pg_name (i := 4) sc_law.nd rfl (.inr rfl)) (pgs_cons (pg_name (i := 5) sc_law.nd rfl (.inr rfl)) pgs_nil))))
     (pss_cons (ps_set (i := 6) sc_law.nd rfl (.inl rfl) (pe_op op_cat (pe_call0 G__law_odd_things (hr.mono (by decide)) (by rfl) D__law_odd_things.g D__law_odd_things.F.kp D__law_odd_things.b .nil pass0) (pe_lst (pa_cons (pe_tup (pa_cons (pv 4) (pa_cons (pv 5) pa_nil))) (pa_cons (pe_lst (pa_cons (pv 4) (pa_cons (pv 5) pa_nil))) (pa_cons (pe_tup (pa_cons (pv 5) (pa_cons (pv 4) pa_nil))) (pa_cons (pe_tup (pa_cons (pv 4) pa_nil)) (pa_cons (pv 4) (pa_cons (pe_tup (pa_cons (pv 4) (pa_cons (pv 5) (pa_cons (pv 5) pa_nil)))) pa_nil)))))))))
     (pss_cons (ps_set (i := 6) sc_law.nd rfl (.inl rfl) (pe_op op_cat (pv 6) (pe_lc (own := [("_law_step", 7)]) rfl sc_law.nd (pi_range1 (by rfl) T.b_range (pa_cons (pe_int) pa_nil)) (blkOk_by (own := [("_law_step", 7)]) (N := nm_law) (sc := defScope s_law) (by decide +kernel)) (fun _ _ _ _ _ => pg_name (i := 7) sc_law.nd rfl (.inl rfl)) (fun _ _ _ _ _ => pts_nil) (fun _ _ _ _ _ => pe_tup (pa_cons (pv 4) (pa_cons (pe_call G__law_bent_lots (hr.mono (by decide)) (by rfl) D__law_bent_lots.g D__law_bent_lots.F.kp D__law_bent_lots.b .nil pass0 (pa_cons (pv 1) (pa_cons (pv 2) (pa_cons (pv 5) pa_nil)))) pa_nil))))))
     (pss_cons (ps_set (i := 6) sc_law.nd rfl (.inl rfl) (pe_op op_cat (pv 6) (pe_lc (own := [("_law_step", 7)]) rfl sc_law.nd (pi_range1 (by rfl) T.b_range (pa_cons (pe_int) pa_nil)) (blkOk_by (own := [("_law_step", 7)]) (N := nm_law) (sc := defScope s_law) (by decide +kernel)) (fun _ _ _ _ _ => pg_name (i := 7) sc_law.nd rfl (.inl rfl)) (fun _ _ _ _ _ => pts_nil) (fun _ _ _ _ _ => pe_tup (pa_cons (pe_call G__law_bent_ways (hr.mono (by decide)) (by rfl) D__law_bent_ways.g D__law_bent_ways.F.kp D__law_bent_ways.b .nil pass0 (pa_cons (pv 1) (pa_cons (pv 2) (pa_cons (pv 4) pa_nil)))) (pa_cons (pv 5) pa_nil))))))
     (pss_cons (ps_set (i := 6) sc_law.nd rfl (.inl rfl) (pe_op op_cat (pv 6) (pe_lc (own := [("_law_other", 8)]) rfl sc_law.nd (pi_list (pe_op op_cat (pe_call G__law_odd_points (hr.mono (by decide)) (by rfl) D__law_odd_points.g D__law_odd_points.F.kp D__law_odd_points.b .nil pass0 (pa_cons (pv 1) (pa_cons (pv 5) pa_nil))) (pe_call G__law_odd_points (hr.mono (by decide)) (by rfl) D__law_odd_points.g D__law_odd_points.F.kp D__law_odd_points.b .nil pass0 (pa_cons (pv 1) (pa_cons (pv 5) pa_nil))))) (blkOk_by (own := [("_law_other", 8)]) (N := nm_law) (sc := defScope s_law) (by decide +kernel)) (fun _ _ _ _ _ => pg_name (i := 8) sc_law.nd rfl (.inl rfl)) (fun _ _ _ _ _ => pts_nil) (fun _ _ _ _ _ => pe_tup (pa_cons (pv 4) (pa_cons (pv 8) pa_nil))))))
     (pss_one (ps_ret (pe_callB (allK (K := K) rfl) (by rfl) T.b_all (by decide +kernel) (pa_cons (pe_lc (own := [("_law_thing", 9)]) rfl sc_law.nd (pi_list (pv 6)) (blkOk_by (own := [("_law_thing", 9)]) (N := nm_law) (sc := defScope s_law) (by decide +kernel)) (fun _ _ _ _ _ => pg_name (i := 9) sc_law.nd rfl (.inl rfl)) (fun _ _ _ _ _ => pts_nil) (fun _ _ _ _ _ => pe_call G__law_is_true (hr.mono (by decide)) (by rfl) D__law_is_true.g D__law_is_true.F.kp D__law_is_true.b .nil pass0 (pa_cons (pe_call G_right_even (hr.mono (by decide)) (by rfl) D_right_even.g D_right_even.F.kp D_right_even.b .nil pass0 (pa_cons (pv 2) (pa_cons (pv 3) (pa_cons (pv 9) pa_nil)))) (pa_cons (pe_call G__law_is_even (hr.mono (by decide)) (by rfl) D__law_is_even.g D__law_is_even.F.kp D__law_is_even.b .nil pass0 (pa_cons (pv 2) (pa_cons (pv 3) (pa_cons (pv 9) pa_nil)))) pa_nil)))) pa_nil))))))))))), ?_⟩
  have LB := line_big
  refine ⟨_, rfl, a, ns, 320, rfl, hS, hlen, by decide, by decide, fun p G0 np k0 hd => ?_⟩
  have hT0 : Tabs tb G0 := hTb.kx k0
  refine ⟨_, rfl, p, 8, 14, rfl, hd, by decide, by decide, by decide, by decide, fun H1 v n ts k1 W n1 n2 hl hok => ?_⟩
  refine ⟨_, rfl, _, rfl, p, v, n, ts, rfl, k1.d, W, n1, fun H2 root k2 hr0 => ?_⟩
  have K2 := k1.trans k2
  have W2 := W.dk k2 k1.d
  refine ⟨_, rfl, _, rfl, _, rfl, _, rfl, _, rfl, p, v, n, ts, root, rfl, K2.d, W2, hr0, hok, by omega, fun H3 b ws k3 hb hw hne => ?_⟩
  have K3 := K2.trans k3
  have W3 := W2.dk k3 K2.d
  refine ⟨v, n, ts, root, b, ws, rfl, W3, hr0, hb, hw, hne, hok, n1, by omega, by omega, fun H4 x b' l us rs lots k4 hx hb' hus hne' hE hl' hLo hLE => ?_⟩
  have K4 := K3.ke k4
  have d4 := K4.d
  have W4 := W3.ke k4
  have t4 := hT0.dk K4
  refine ⟨x, _, rfl, sqT_of hx, rfl, _, _, rfl, _, [], rfl, rfl, ?_⟩
  clear hx hE hb hw hne W W2 W3
  have hul : us.length ≤ 14 := by have := hus.1; omega
  have hll : lots.length ≤ 14 := by have := hLE.le n1; omega
  have hrl := hLo.length
  have hlb : ∀ x ∈ lots, x.length ≤ 60 := fun x hx => by
    obtain ⟨i, hi⟩ := List.getElem?_of_mem hx
    have := hLE.bd hi
    omega
  have hln : ∀ x ∈ lots, x ≠ [] := fun x hx => by
    obtain ⟨i, hi⟩ := List.getElem?_of_mem hx
    exact hLE.ne n1 hne' hi
  clear hLE
  have fW4 : ThF H4 (.ref b') (some (us.map V.int)) := .yes hb' fun y hy => by
    obtain ⟨i, _, rfl⟩ := List.mem_map.mp hy
    exact ⟨_, .int i⟩
  have hJ4 : ThJ H4 rs := hLo.j fun x hx => Nat.le_trans (hlb x hx) (by decide)
  have fL4 : ThF H4 (.ref l) (some rs) := .yes hl' fun y hy => (hJ4.all y hy).ty
  have dL4 : DQ 5 H4 (.ref l) := hJ4.tup (.inr hl') (by omega)
  have dW4 : DQ 5 H4 (.ref b') := (ThJ.ints us).tup (.inr hb') (by rw [List.length_map]; omega)
  have mW4 : ∃ o, M2Q H4 (.ref b') o := by
    match us, hb' with
    | [x, y], h => exact ⟨_, .yes (.inr h) (.no (.int x) (by decide)) (.no (.int y) (by decide))⟩
    | [], h => exact ⟨_, .len (.inr h) (by simp)⟩
    | [_], h => exact ⟨_, .len (.inr h) (by simp)⟩
    | _ :: _ :: _ :: _, h => exact ⟨_, .len (.inr h) (by simp)⟩
  refine ⟨rfl, fun H5 lo xo k5 nlo glo hxo hxol => ?_⟩
  refine ⟨_, rfl, _, rfl, by show 2 ≤ sizeLine; decide, fun t1 nt1 => ?_⟩
  have i1 := Ke.new (S := fun _ => False) (o := .tup [.ref b', .ref l]) nt1
  have j1 := k5.trans i1
  have s1 : M2s (upd H5 t1 (.tup [.ref b', .ref l])) [.ref t1] := .cons (m2_pair (.inl upd_same) (fW4.ke j1) (dL4.ke j1)) .nil
  generalize upd H5 t1 _ = J1 at *
  refine ⟨_, rfl, _, rfl, by show 2 ≤ sizeLine; decide, fun t2 nt2 => ?_⟩
  have i2 := i1.trans (Ke.new (o := .lst [.ref b', .ref l]) nt2)
  have j2 := k5.trans i2
  have s2 := (s1.new (o := .lst [.ref b', .ref l]) nt2).cons (m2_ty (.lst upd_same) (by decide))
  generalize upd J1 t2 _ = J2 at *
  refine ⟨_, rfl, _, rfl, by show 2 ≤ sizeLine; decide, fun t3 nt3 => ?_⟩
  have i3 := i2.trans (Ke.new (o := .tup [.ref l, .ref b']) nt3)
  have j3 := k5.trans i3
  have s3 := (s2.new (o := .tup [.ref l, .ref b']) nt3).cons (m2_pair (.inl upd_same) (fL4.ke j3) (dW4.ke j3))
  generalize upd J2 t3 _ = J3 at *
  refine ⟨_, rfl, by show 1 ≤ sizeLine; decide, fun t4' nt4 => ?_⟩
  have i4 := i3.trans (Ke.new (o := .tup [.ref b']) nt4)
  have j4 := k5.trans i4
  have s4 := (s3.new (o := .tup [.ref b']) nt4).cons ⟨_, .len (.inl upd_same) (by simp)⟩
  generalize upd J3 t4' _ = J4 at *
  refine ⟨_, rfl, _, rfl, _, rfl, _, rfl, by show 3 ≤ sizeLine; decide, fun t6 nt6 => ?_⟩
  have i6 := i4.trans (Ke.new (o := .tup [.ref b', .ref l, .ref l]) nt6)
  have j6 := k5.trans i6
  have s6 := (s4.new (o := .tup [.ref b', .ref l, .ref l]) nt6).cons ⟨_, .len (.inl upd_same) (by simp)⟩
  generalize upd J4 t6 _ = J6 at *
  refine ⟨by show 6 ≤ sizeLine; decide, fun L nL => ?_⟩
  have sL : M2s (upd J6 L (.lst [.ref t1, .ref t2, .ref t3, .ref t4', .ref b', .ref t6])) [.ref t1, .ref t2, .ref t3, .ref t4', .ref b', .ref t6] := ((s6.cons (mW4.imp fun _ z => z.ke j6)).sub fun y hy => by simp only [List.mem_cons, List.not_mem_nil, or_false] at hy ⊢; rcases hy with h | h | h | h | h | h <;> simp [h]).new nL
  have iL := i6.trans (Ke.new (o := .lst [.ref t1, .ref t2, .ref t3, .ref t4', .ref b', .ref t6]) nL)
  have jL := k5.trans iL
  have gL : (upd J6 L (.lst [.ref t1, .ref t2, .ref t3, .ref t4', .ref b', .ref t6])) L = some (.lst [.ref t1, .ref t2, .ref t3, .ref t4', .ref b', .ref t6]) := upd_same
  clear s1 s2 s3 s4 s6
  generalize hod : [V.ref t1, .ref t2, .ref t3, .ref t4', .ref b', .ref t6] = od at *
  have hol : od.length = 6 := by rw [← hod]; rfl
  clear hod
  generalize upd J6 L _ = J7 at *
  have glo7 := Ke.lst iL glo
  have sA := (hxo.ke iL).app sL
  have kD := (Dk.refl d4).ke jL
  refine ⟨lo, L, _, _, rfl, rfl, glo7, gL, by omega, fun l6 nl6 => ?_⟩
  have kD6 := kD.ke (Ke.new (o := .lst (xo ++ od)) nl6)
  have gl6 : (upd J7 l6 (.lst (xo ++ od))) l6 = some (.lst (xo ++ od)) := upd_same
  replace sA := sA.new (o := .lst (xo ++ od)) nl6
  have hAl : (xo ++ od).length ≤ 106 := by rw [List.length_append]; omega
  have l6p : l6 ≠ p := (kD.d.ne nl6).symm
  clear i1 i2 i3 i4 i6 j1 j2 j3 j4 j6 sL hxo mW4
  generalize xo ++ od = X6 at *
  generalize upd J7 l6 _ = J8 at *
  have d8 := kD6.d
  refine ⟨_, rfl, 14, rfl, by decide, by decide, fun D nD => ?_⟩
  have Dp : D ≠ p := (d8.ne nD).symm
  refine lc_range (lo := 0) (n := 14) (fun j G => ∃ ys, Dk p J8 G ∧ G D = some (.lst ys) ∧ M2s G ys ∧ ys.length ≤ j) ⟨[], (Dk.refl d8).ke (Ke.new nD), upd_same, .nil, Nat.le_refl _⟩ (fun j G hj hG => ?_) (fun G hG => ?_)
  · obtain ⟨ys, kG, gD, hY, hyl⟩ := hG
    have kA := kD6.trans kG
    refine ⟨rfl, yes_ite ?_⟩
    refine ⟨_, rfl, _, rfl, _, rfl, _, rfl, p, v, n, ts, l, rs, lots, rfl, kA.d, W4.dk kA d4, n1, by omega, hl'.dk kA d4, hLo.mono fun _ _ z => kA.tup d4 z, hlb, by omega, fun G1 y kk hy => ⟨by show 2 ≤ sizeLine; decide, fun t nt => ?_⟩⟩
    have gD1 := kk.lst gD Dp
    have kn := Ke.new (S := fun _ => False) (o := .tup [.ref b', y]) nt
    have kB := (kA.trans kk).ke kn
    exact ⟨ys, Ke.lst kn gD1, by omega, ys ++ [.ref t], ((kG.trans kk).ke kn).over d8 nD, upd_same, (((hY.dk kk kG.d).ke kn).app (.cons (m2_pair (.inl upd_same) (fW4.dk kB d4) (hy.ke kn)) .nil)).put (Ke.lst kn gD1), by rw [List.length_append]; exact Nat.succ_le_succ hyl⟩
  obtain ⟨ys, kG, gD, hY, hyl⟩ := hG
  refine ⟨l6, D, _, _, rfl, rfl, kG.lst gl6 l6p, gD, by omega, fun l7 nl7 => ?_⟩
  have kD7 := (kD6.trans kG).ke (Ke.new (o := .lst (X6 ++ ys)) nl7)
  have gl7 : (upd G l7 (.lst (X6 ++ ys))) l7 = some (.lst (X6 ++ ys)) := upd_same
  have sB := ((sA.dk kG d8).app hY).new (o := .lst (X6 ++ ys)) nl7
  have hBl : (X6 ++ ys).length ≤ 120 := by rw [List.length_append]; omega
  have l7p : l7 ≠ p := (kG.d.ne nl7).symm
  clear sA hY gl6 kD6
  generalize X6 ++ ys = X7 at *
  generalize upd G l7 _ = J9 at *
  have d9 := kD7.d
  refine ⟨_, rfl, 6, rfl, by decide, by decide, fun D nD => ?_⟩
  have Dp : D ≠ p := (d9.ne nD).symm
  refine lc_range (lo := 0) (n := 6) (fun j G => ∃ ys, Dk p J9 G ∧ G D = some (.lst ys) ∧ M2s G ys ∧ ys.length ≤ j) ⟨[], (Dk.refl d9).ke (Ke.new nD), upd_same, .nil, Nat.le_refl _⟩ (fun j G hj hG => ?_) (fun G hG => ?_)
  · obtain ⟨ys, kG, gD, hY, hyl⟩ := hG
    have kA := kD7.trans kG
    refine ⟨rfl, yes_ite ?_⟩
    refine ⟨_, rfl, _, rfl, _, rfl, p, v, n, ts, b', us, rfl, kA.d, W4.dk kA d4, n1, by omega, hb'.dk kA d4, by omega, fun G1 y o kk hy => ⟨_, rfl, by show 2 ≤ sizeLine; decide, fun t nt => ?_⟩⟩
    have gD1 := kk.lst gD Dp
    have kn := Ke.new (S := fun _ => False) (o := .tup [y, .ref l]) nt
    have kB := (kA.trans kk).ke kn
    exact ⟨ys, Ke.lst kn gD1, by omega, ys ++ [.ref t], ((kG.trans kk).ke kn).over d9 nD, upd_same, (((hY.dk kk kG.d).ke kn).app (.cons (m2_pair (.inl upd_same) (hy.ke kn) (dL4.dk kB d4)) .nil)).put (Ke.lst kn gD1), by rw [List.length_append]; exact Nat.succ_le_succ hyl⟩
  obtain ⟨ys2, kG2, gD2, hY2, hyl2⟩ := hG
  refine ⟨l7, D, _, _, rfl, rfl, kG2.lst gl7 l7p, gD2, by omega, fun l8 nl8 => ?_⟩
  have kD8 := (kD7.trans kG2).ke (Ke.new (o := .lst (X7 ++ ys2)) nl8)
  have gl8 : (upd G l8 (.lst (X7 ++ ys2))) l8 = some (.lst (X7 ++ ys2)) := upd_same
  have sC := ((sB.dk kG2 d9).app hY2).new (o := .lst (X7 ++ ys2)) nl8
  have hCl : (X7 ++ ys2).length ≤ 130 := by rw [List.length_append]; omega
  have l8p : l8 ≠ p := (kG2.d.ne nl8).symm
  clear sB hY2 gl7 kD7
  generalize X7 ++ ys2 = X8 at *
  generalize upd G l8 _ = J10 at *
  have d10 := kD8.d
  refine ⟨_, rfl, _, rfl, _, rfl, p, l, rs, lots, rfl, d10, hl'.dk kD8 d4, hLo.mono fun _ _ z => kD8.tup d4 z, hlb, hln, by omega, fun Ga oa ya ka noa goa hya hyal => ?_⟩
  have kDa := kD8.trans ka
  have oap : oa ≠ p := (d10.ne noa).symm
  refine ⟨_, rfl, _, rfl, p, l, rs, lots, rfl, ka.d, hl'.dk kDa d4, hLo.mono fun _ _ z => kDa.tup d4 z, hlb, hln, by omega, fun Gb ob yb kb nob gob hyb hybl => ?_⟩
  refine ⟨oa, ob, _, _, rfl, rfl, kb.lst goa oap, gob, by omega, fun oc noc => ?_⟩
  refine ⟨oc, rfl, ⟨_, sqL_of upd_same⟩, fun D nD => ?_⟩
  have kab := (ka.trans kb).ke (Ke.new (o := .lst (ya ++ yb)) noc)
  have goc : (upd Gb oc (.lst (ya ++ yb))) oc = some (.lst (ya ++ yb)) := upd_same
  have sY := ((hya.dk kb ka.d).app hyb).new (o := .lst (ya ++ yb)) noc
  have hYl : (ya ++ yb).length ≤ 12 := by rw [List.length_append]; omega
  have gl8b := kab.lst gl8 l8p
  have sC2 := sC.dk kab d10
  have kD9 := kD8.trans kab
  clear hya hyb
  generalize ya ++ yb = Y0 at *
  generalize upd Gb oc _ = J11 at *
  have d11 := kD9.d
  refine lc_list (K := K) (a := oc) (xs := Y0) (fun j G => ∃ ys, Ke J11 G ∧ G D = some (.lst ys) ∧ M2s G ys ∧ ys.length ≤ j) ⟨[], Ke.new nD, upd_same, .nil, Nat.le_refl _⟩ (fun j G _ hG => ?_) (fun j y G hy hG => ?_) (fun G hG => ?_)
  · obtain ⟨ys, kG, _⟩ := hG
    exact sqL_of (kG.lst goc)
  · obtain ⟨ys, kG, gD, hY, hyl⟩ := hG
    have hj := (List.getElem?_eq_some_iff.mp hy).1
    refine ⟨rfl, yes_ite ?_⟩
    refine ⟨_, rfl, _, rfl, by show 2 ≤ sizeLine; decide, fun t nt => ?_⟩
    have kn := Ke.new (S := fun _ => False) (o := .tup [.ref b', y]) nt
    have kB := (kD9.ke kG).ke kn
    exact ⟨ys, Ke.lst kn gD, by omega, ys ++ [.ref t], (kG.trans kn).over nD, upd_same, ((hY.ke kn).app (.cons (m2_pair (.inl upd_same) (fW4.dk kB d4) ((sY.all y (List.mem_of_getElem? hy)).ke (kG.trans kn))) .nil)).put (Ke.lst kn gD), by rw [List.length_append]; exact Nat.succ_le_succ hyl⟩
  obtain ⟨ys3, kG3, gD3, hY3, hyl3⟩ := hG
  refine ⟨l8, D, _, _, rfl, rfl, Ke.lst kG3 gl8b, gD3, by omega, fun l9 nl9 => ?_⟩
  have kD10 := (kD9.ke kG3).ke (Ke.new (o := .lst (X8 ++ ys3)) nl9)
  have gl9 : (upd G l9 (.lst (X8 ++ ys3))) l9 = some (.lst (X8 ++ ys3)) := upd_same
  have sD := ((sC2.ke kG3).app hY3).new (o := .lst (X8 ++ ys3)) nl9
  have hDl : (X8 ++ ys3).length ≤ 150 := by rw [List.length_append]; omega
  clear sC sC2 hY3 gl8 sY
  generalize X8 ++ ys3 = X9 at *
  generalize upd G l9 _ = J12 at *
  have W12 := W4.dk kD10 d4
  have t12 := t4.dk kD10
  refine ⟨_, rfl, l9, rfl, ⟨_, sqL_of gl9⟩, fun D nD => ?_⟩
  refine lc_list (K := K) (a := l9) (xs := X9) (fun j G => Ke J12 G ∧ G D = some (.lst ((List.replicate j true).map V.bl))) ⟨Ke.new nD, upd_same⟩ (fun j G _ hG => sqL_of (Ke.lst hG.1 gl9)) (fun j y G hy hG => ?_) (fun G hG => ?_)
  · obtain ⟨kG, gD⟩ := hG
    have hj := (List.getElem?_eq_some_iff.mp hy).1
    obtain ⟨o, hM⟩ := (sD.all y (List.mem_of_getElem? hy))
    have hM := hM.ke kG
    refine ⟨rfl, yes_ite ?_⟩
    refine ⟨_, rfl, _, rfl, _, rfl, v, n, ts, root, y, o, rfl, W12.ke kG, hr0, hok, n1, by omega, by omega, hM, t12.kx kG, fun G5 kg5 => ?_⟩
    have kk5 := kG.trans kg5
    refine ⟨_, rfl, _, rfl, _, rfl, v, n, ts, root, y, o, rfl, W12.ke kk5, hr0, hok, n1, by omega, by omega, hM.ke kg5, fun G6 kg6 => ?_⟩
    have kk6 := kk5.trans kg6
    refine ⟨_, _, rfl, ?_⟩
    rw [decide_eq_true rfl]
    refine ⟨_, Ke.lst (kg5.trans kg6) gD, by rw [List.length_map, List.length_replicate]; omega, kk6.over nD, ?_⟩
    rw [List.replicate_succ', List.map_append]
    exact upd_same
  · obtain ⟨kG, gD⟩ := hG
    refine ⟨D, _, rfl, sqL_of gD, ?_⟩
    have : (List.replicate X9.length true).all id = true := List.all_eq_true.mpr fun x hx => (List.mem_replicate.mp hx).2
    rw [this]
    exact q _
end FF
namespace FF
open PySem PySem.Spec PyProof.Rows L2
/-! ### the head -/
def d_is_number : He.DefD := ⟨("is_number", none), "is_number", "is_number", defArgs s_is_number, defBody s_is_number, defScope s_is_number, [], []⟩
def d_is_rising : He.DefD := ⟨("is_rising", none), "is_rising", "is_rising", defArgs s_is_rising, defBody s_is_rising, defScope s_is_rising, [], []⟩
def d_shares_of : He.DefD := ⟨("shares_of", none), "shares_of", "shares_of", defArgs s_shares_of, defBody s_shares_of, defScope s_shares_of, [], []⟩
def d_is_lot : He.DefD := ⟨("is_lot", none), "is_lot", "is_lot", defArgs s_is_lot, defBody s_is_lot, defScope s_is_lot, [], []⟩
def d_is_ways : He.DefD := ⟨("is_ways", none), "is_ways", "is_ways", defArgs s_is_ways, defBody s_is_ways, defScope s_is_ways, [], []⟩
def d_right_even : He.DefD := ⟨("right_even", none), "right_even", "right_even", defArgs s_right_even, defBody s_right_even, defScope s_right_even, [], []⟩
def d_are_closed : He.DefD := ⟨("are_closed", none), "are_closed", "are_closed", defArgs s_are_closed, defBody s_are_closed, defScope s_are_closed, [], []⟩
def d_is_closed : He.DefD := ⟨("is_closed", none), "is_closed", "is_closed", defArgs s_is_closed, defBody s_is_closed, defScope s_is_closed, [], []⟩
def d_law_mixed : He.DefD := ⟨("_law_mixed", none), "_law_mixed", "_law_mixed", defArgs s_law_mixed, defBody s_law_mixed, defScope s_law_mixed, [], []⟩
def d_law_deck : He.DefD := ⟨("_law_deck", none), "_law_deck", "_law_deck", defArgs s_law_deck, defBody s_law_deck, defScope s_law_deck, [], []⟩
def d_law_next : He.DefD := ⟨("_law_next", none), "_law_next", "_law_next", defArgs s_law_next, defBody s_law_next, defScope s_law_next, [], []⟩
def d_law_tie : He.DefD := ⟨("_law_tie", none), "_law_tie", "_law_tie", defArgs s_law_tie, defBody s_law_tie, defScope s_law_tie, [], []⟩
def d_law_any_web : He.DefD := ⟨("_law_any_web", none), "_law_any_web", "_law_any_web", defArgs s_law_any_web, defBody s_law_any_web, defScope s_law_any_web, [], []⟩
def d_law_round : He.DefD := ⟨("_law_round", none), "_law_round", "_law_round", defArgs s_law_round, defBody s_law_round, defScope s_law_round, [], []⟩
def d_law_full : He.DefD := ⟨("_law_full", none), "_law_full", "_law_full", defArgs s_law_full, defBody s_law_full, defScope s_law_full, [], []⟩
def d_law_tree : He.DefD := ⟨("_law_tree", none), "_law_tree", "_law_tree", defArgs s_law_tree, defBody s_law_tree, defScope s_law_tree, [], []⟩
def d_law_web : He.DefD := ⟨("_law_web", none), "_law_web", "_law_web", defArgs s_law_web, defBody s_law_web, defScope s_law_web, [], []⟩
def d_law_is_int : He.DefD := ⟨("_law_is_int", none), "_law_is_int", "_law_is_int", defArgs s_law_is_int, defBody s_law_is_int, defScope s_law_is_int, [], []⟩
def d_law_is_true : He.DefD := ⟨("_law_is_true", none), "_law_is_true", "_law_is_true", defArgs s_law_is_true, defBody s_law_is_true, defScope s_law_is_true, [], []⟩
def d_law_odd_things : He.DefD := ⟨("_law_odd_things", none), "_law_odd_things", "_law_odd_things", defArgs s_law_odd_things, defBody s_law_odd_things, defScope s_law_odd_things, [], []⟩
def d_law_outs : He.DefD := ⟨("_law_outs", none), "_law_outs", "_law_outs", defArgs s_law_outs, defBody s_law_outs, defScope s_law_outs, [], []⟩
def d_law_is_lot : He.DefD := ⟨("_law_is_lot", none), "_law_is_lot", "_law_is_lot", defArgs s_law_is_lot, defBody s_law_is_lot, defScope s_law_is_lot, [], []⟩
def d_law_leads : He.DefD := ⟨("_law_leads", none), "_law_leads", "_law_leads", defArgs s_law_leads, defBody s_law_leads, defScope s_law_leads, [], []⟩
def d_law_come_to : He.DefD := ⟨("_law_come_to", none), "_law_come_to", "_law_come_to", defArgs s_law_come_to, defBody s_law_come_to, defScope s_law_come_to, [], []⟩
def d_law_root : He.DefD := ⟨("_law_root", none), "_law_root", "_law_root", defArgs s_law_root, defBody s_law_root, defScope s_law_root, [], []⟩
def d_law_root_ways : He.DefD := ⟨("_law_root_ways", none), "_law_root_ways", "_law_root_ways", defArgs s_law_root_ways, defBody s_law_root_ways, defScope s_law_root_ways, [], []⟩
def d_law_evened : He.DefD := ⟨("_law_evened", none), "_law_evened", "_law_evened", defArgs s_law_evened, defBody s_law_evened, defScope s_law_evened, [], []⟩
def d_law_turned : He.DefD := ⟨("_law_turned", none), "_law_turned", "_law_turned", defArgs s_law_turned, defBody s_law_turned, defScope s_law_turned, [], []⟩
def d_law_even_paper : He.DefD := ⟨("_law_even_paper", none), "_law_even_paper", "_law_even_paper", defArgs s_law_even_paper, defBody s_law_even_paper, defScope s_law_even_paper, [], []⟩
def d_law_are_ways : He.DefD := ⟨("_law_are_ways", none), "_law_are_ways", "_law_are_ways", defArgs s_law_are_ways, defBody s_law_are_ways, defScope s_law_are_ways, [], []⟩
def d_law_is_even : He.DefD := ⟨("_law_is_even", none), "_law_is_even", "_law_is_even", defArgs s_law_is_even, defBody s_law_is_even, defScope s_law_is_even, [], []⟩
def d_law_bent_lots : He.DefD := ⟨("_law_bent_lots", none), "_law_bent_lots", "_law_bent_lots", defArgs s_law_bent_lots, defBody s_law_bent_lots, defScope s_law_bent_lots, [], []⟩
def d_law_lots_of : He.DefD := ⟨("_law_lots_of", none), "_law_lots_of", "_law_lots_of", defArgs s_law_lots_of, defBody s_law_lots_of, defScope s_law_lots_of, [], []⟩
def d_law_odd_points : He.DefD := ⟨("_law_odd_points", none), "_law_odd_points", "_law_odd_points", defArgs s_law_odd_points, defBody s_law_odd_points, defScope s_law_odd_points, [], []⟩
def d_law_bent_ways : He.DefD := ⟨("_law_bent_ways", none), "_law_bent_ways", "_law_bent_ways", defArgs s_law_bent_ways, defBody s_law_bent_ways, defScope s_law_bent_ways, [], []⟩
def d_law : He.DefD := ⟨("law", none), "law", "law", defArgs s_law, defBody s_law, defScope s_law, [], []⟩
def fn : List He.DefD := [d_is_number, d_is_rising, d_shares_of, d_is_lot, d_is_ways, d_right_even, d_are_closed, d_is_closed, d_law_mixed, d_law_deck, d_law_next, d_law_tie, d_law_any_web, d_law_round, d_law_full, d_law_tree, d_law_web, d_law_is_int, d_law_is_true, d_law_odd_things, d_law_outs, d_law_is_lot, d_law_leads, d_law_come_to, d_law_root, d_law_root_ways, d_law_evened, d_law_turned, d_law_even_paper, d_law_are_ways, d_law_is_even, d_law_bent_lots, d_law_lots_of, d_law_odd_points, d_law_bent_ways, d_law]
def fa : List He.Fa := [.glo "is_number", .glo "is_rising", .glo "shares_of", .glo "is_lot", .glo "is_ways", .glo "right_even", .glo "are_closed", .glo "is_closed", .glo "_law_mixed", .glo "_law_deck", .glo "_law_next", .glo "_law_tie", .glo "_law_any_web", .glo "_law_round", .glo "_law_full", .glo "_law_tree", .glo "_law_web", .glo "_law_is_int", .glo "_law_is_true", .glo "_law_odd_things", .glo "_law_outs", .glo "_law_is_lot", .glo "_law_leads", .glo "_law_come_to", .glo "_law_root", .glo "_law_root_ways", .glo "_law_evened", .glo "_law_turned", .glo "_law_even_paper", .glo "_law_are_ways", .glo "_law_is_even", .glo "_law_bent_lots", .glo "_law_lots_of", .glo "_law_odd_points", .glo "_law_bent_ways", .glo "law", .free "all", .free "bool", .free "enumerate", .free "int", .free "isinstance", .free "len", .free "list", .free "max", .free "min", .free "range", .free "reversed", .free "set", .free "sorted", .free "tuple", .free "zip"]
def tf : List He.Defn := [("is_ways", none), ("are_closed", none), ("is_closed", none)]
abbrev R : PySem.W.OpenRow := PySem.W.OpenLaw.row PySem.Challenge.rw_fewforests_k61_bent_even
abbrev hk : PySem.W.Hook := He.hookX 4 fa fn [] tf (fun _ => true)
def ob (s : PySem.W.SharedT) : He.AlX := He.obsX 4 fa fn [] tf (fun _ => true) (HandSHeadRun.getT s)
theorem ob_eq (s : PySem.W.SharedT) : ob s = hk.obs s.abs := He.obsX_eq (HandSHeadRun.getT_eq s)
def loose : List PySem.Str := "is_number" :: "is_rising" :: "shares_of" :: "is_lot" :: "is_ways" :: "right_even" :: "are_closed" :: "is_closed" :: "_law_mixed" :: "_law_deck" :: "_law_next" :: "_law_tie" :: "_law_any_web" :: "_law_round" :: "_law_full" :: "_law_tree" :: "_law_web" :: "_law_is_int" :: "_law_is_true" :: "_law_odd_things" :: "_law_outs" :: "_law_is_lot" :: "_law_leads" :: "_law_come_to" :: "_law_root" :: "_law_root_ways" :: "_law_evened" :: "_law_turned" :: "_law_even_paper" :: "_law_are_ways" :: "_law_is_even" :: "_law_bent_lots" :: "_law_lots_of" :: "_law_odd_points" :: "_law_bent_ways" :: []
theorem run (w : World) : HandSHeadRun.RunEq R (PySem.W.view R.prog [40]) hk ob 3000 loose w := by
  intro os
  kernel_rfl
theorem lawAt {w : World} {K : PySem.W.Frag} {h : Heap} {mg : Str → Option Value} {f : Addr} (X : K.In h) (G : h.Ns mainGlobals mg) (hfa : mg ("law" : Str) = some (.ref f)) (c : He.SaysX fa fn [] tf (fun _ => true) w h K) :
    LamX.LawAtS PySem.Challenge.rw_fewforests_k61_bent_even w K CX0 11 63 "_law_script" mg f h := by
  have cd : He.SaysD fa fn K := c.t.d
  letI LI : LT := ⟨fun _ => false⟩
  obtain ⟨fd_is_number, F_is_number⟩ := cd.def_ 0 (d := d_is_number) rfl
  have g_is_number := He.glo_ok X G (cd.fact 0 (f := .glo "is_number") rfl)
  have D_is_number : DefAt K mg "is_number" s_is_number ["thing", "least", "most"] _ fd_is_number := ⟨F_is_number, g_is_number, FunD.bindsN F_is_number fun _ _ _ _ _ _ us hl => match us, hl with | [_, _, _], _ => rfl⟩
  obtain ⟨fd_is_rising, F_is_rising⟩ := cd.def_ 1 (d := d_is_rising) rfl
  have g_is_rising := He.glo_ok X G (cd.fact 1 (f := .glo "is_rising") rfl)
  have D_is_rising : DefAt K mg "is_rising" s_is_rising ["thing", "most"] _ fd_is_rising := ⟨F_is_rising, g_is_rising, FunD.bindsN F_is_rising fun _ _ _ _ _ _ us hl => match us, hl with | [_, _], _ => rfl⟩
  obtain ⟨fd_shares_of, F_shares_of⟩ := cd.def_ 2 (d := d_shares_of) rfl
  have g_shares_of := He.glo_ok X G (cd.fact 2 (f := .glo "shares_of") rfl)
  have D_shares_of : DefAt K mg "shares_of" s_shares_of ["points", "holders"] _ fd_shares_of := ⟨F_shares_of, g_shares_of, FunD.bindsN F_shares_of fun _ _ _ _ _ _ us hl => match us, hl with | [_, _], _ => rfl⟩
  obtain ⟨fd_is_lot, F_is_lot⟩ := cd.def_ 3 (d := d_is_lot) rfl
  have g_is_lot := He.glo_ok X G (cd.fact 3 (f := .glo "is_lot") rfl)
  have D_is_lot : DefAt K mg "is_lot" s_is_lot ["web", "thing"] _ fd_is_lot := ⟨F_is_lot, g_is_lot, FunD.bindsN F_is_lot fun _ _ _ _ _ _ us hl => match us, hl with | [_, _], _ => rfl⟩
  obtain ⟨fd_is_ways, F_is_ways⟩ := cd.def_ 4 (d := d_is_ways) rfl
  have g_is_ways := He.glo_ok X G (cd.fact 4 (f := .glo "is_ways") rfl)
  have D_is_ways : DefAt K mg "is_ways" s_is_ways ["web", "thing"] _ fd_is_ways := ⟨F_is_ways, g_is_ways, FunD.bindsN F_is_ways fun _ _ _ _ _ _ us hl => match us, hl with | [_, _], _ => rfl⟩
  obtain ⟨fd_right_even, F_right_even⟩ := cd.def_ 5 (d := d_right_even) rfl
  have g_right_even := He.glo_ok X G (cd.fact 5 (f := .glo "right_even") rfl)
  have D_right_even : DefAt K mg "right_even" s_right_even ["web", "root", "thing"] _ fd_right_even := ⟨F_right_even, g_right_even, FunD.bindsN F_right_even fun _ _ _ _ _ _ us hl => match us, hl with | [_, _, _], _ => rfl⟩
  obtain ⟨fd_are_closed, F_are_closed⟩ := cd.def_ 6 (d := d_are_closed) rfl
  have g_are_closed := He.glo_ok X G (cd.fact 6 (f := .glo "are_closed") rfl)
  have D_are_closed : DefAt K mg "are_closed" s_are_closed ["web", "held", "thing"] _ fd_are_closed := ⟨F_are_closed, g_are_closed, FunD.bindsN F_are_closed fun _ _ _ _ _ _ us hl => match us, hl with | [_, _, _], _ => rfl⟩
  obtain ⟨fd_is_closed, F_is_closed⟩ := cd.def_ 7 (d := d_is_closed) rfl
  have g_is_closed := He.glo_ok X G (cd.fact 7 (f := .glo "is_closed") rfl)
  have D_is_closed : DefAt K mg "is_closed" s_is_closed ["web", "held", "shares", "q", "thing"] _ fd_is_closed := ⟨F_is_closed, g_is_closed, FunD.bindsN F_is_closed fun _ _ _ _ _ _ us hl => match us, hl with | [_, _, _, _, _], _ => rfl⟩
  obtain ⟨fd__law_mixed, F__law_mixed⟩ := cd.def_ 8 (d := d_law_mixed) rfl
  have g__law_mixed := He.glo_ok X G (cd.fact 8 (f := .glo "_law_mixed") rfl)
  have D__law_mixed : DefAt K mg "_law_mixed" s_law_mixed ["_law_cell", "_law_k"] _ fd__law_mixed := ⟨F__law_mixed, g__law_mixed, FunD.bindsN F__law_mixed fun _ _ _ _ _ _ us hl => match us, hl with | [_, _], _ => rfl⟩
  obtain ⟨fd__law_deck, F__law_deck⟩ := cd.def_ 9 (d := d_law_deck) rfl
  have g__law_deck := He.glo_ok X G (cd.fact 9 (f := .glo "_law_deck") rfl)
  have D__law_deck : DefAt K mg "_law_deck" s_law_deck ["_law_script", "_law_many"] _ fd__law_deck := ⟨F__law_deck, g__law_deck, FunD.bindsN F__law_deck fun _ _ _ _ _ _ us hl => match us, hl with | [_, _], _ => rfl⟩
  obtain ⟨fd__law_next, F__law_next⟩ := cd.def_ 10 (d := d_law_next) rfl
  have g__law_next := He.glo_ok X G (cd.fact 10 (f := .glo "_law_next") rfl)
  have D__law_next : DefAt K mg "_law_next" s_law_next ["_law_deck_here"] _ fd__law_next := ⟨F__law_next, g__law_next, FunD.bindsN F__law_next fun _ _ _ _ _ _ us hl => match us, hl with | [_], _ => rfl⟩
  obtain ⟨fd__law_tie, F__law_tie⟩ := cd.def_ 11 (d := d_law_tie) rfl
  have g__law_tie := He.glo_ok X G (cd.fact 11 (f := .glo "_law_tie") rfl)
  have D__law_tie : DefAt K mg "_law_tie" s_law_tie ["_law_deck_here", "_law_points"] _ fd__law_tie := ⟨F__law_tie, g__law_tie, FunD.bindsN F__law_tie fun _ _ _ _ _ _ us hl => match us, hl with | [_, _], _ => rfl⟩
  obtain ⟨fd__law_any_web, F__law_any_web⟩ := cd.def_ 12 (d := d_law_any_web) rfl
  have g__law_any_web := He.glo_ok X G (cd.fact 12 (f := .glo "_law_any_web") rfl)
  have D__law_any_web : DefAt K mg "_law_any_web" s_law_any_web ["_law_deck_here", "_law_points", "_law_most"] _ fd__law_any_web := ⟨F__law_any_web, g__law_any_web, FunD.bindsN F__law_any_web fun _ _ _ _ _ _ us hl => match us, hl with | [_, _, _], _ => rfl⟩
  obtain ⟨fd__law_round, F__law_round⟩ := cd.def_ 13 (d := d_law_round) rfl
  have g__law_round := He.glo_ok X G (cd.fact 13 (f := .glo "_law_round") rfl)
  have D__law_round : DefAt K mg "_law_round" s_law_round ["_law_points"] _ fd__law_round := ⟨F__law_round, g__law_round, FunD.bindsN F__law_round fun _ _ _ _ _ _ us hl => match us, hl with | [_], _ => rfl⟩
  obtain ⟨fd__law_full, F__law_full⟩ := cd.def_ 14 (d := d_law_full) rfl
  have g__law_full := He.glo_ok X G (cd.fact 14 (f := .glo "_law_full") rfl)
  have D__law_full : DefAt K mg "_law_full" s_law_full ["_law_points"] _ fd__law_full := ⟨F__law_full, g__law_full, FunD.bindsN F__law_full fun _ _ _ _ _ _ us hl => match us, hl with | [_], _ => rfl⟩
  obtain ⟨fd__law_tree, F__law_tree⟩ := cd.def_ 15 (d := d_law_tree) rfl
  have g__law_tree := He.glo_ok X G (cd.fact 15 (f := .glo "_law_tree") rfl)
  have D__law_tree : DefAt K mg "_law_tree" s_law_tree ["_law_deck_here", "_law_points"] _ fd__law_tree := ⟨F__law_tree, g__law_tree, FunD.bindsN F__law_tree fun _ _ _ _ _ _ us hl => match us, hl with | [_, _], _ => rfl⟩
  obtain ⟨fd__law_web, F__law_web⟩ := cd.def_ 16 (d := d_law_web) rfl
  have g__law_web := He.glo_ok X G (cd.fact 16 (f := .glo "_law_web") rfl)
  have D__law_web : DefAt K mg "_law_web" s_law_web ["_law_deck_here", "_law_points", "_law_most"] _ fd__law_web := ⟨F__law_web, g__law_web, FunD.bindsN F__law_web fun _ _ _ _ _ _ us hl => match us, hl with | [_, _, _], _ => rfl⟩
  obtain ⟨fd__law_is_int, F__law_is_int⟩ := cd.def_ 17 (d := d_law_is_int) rfl
  have g__law_is_int := He.glo_ok X G (cd.fact 17 (f := .glo "_law_is_int") rfl)
  have D__law_is_int : DefAt K mg "_law_is_int" s_law_is_int ["_law_thing", "_law_least", "_law_most"] _ fd__law_is_int := ⟨F__law_is_int, g__law_is_int, FunD.bindsN F__law_is_int fun _ _ _ _ _ _ us hl => match us, hl with | [_, _, _], _ => rfl⟩
  obtain ⟨fd__law_is_true, F__law_is_true⟩ := cd.def_ 18 (d := d_law_is_true) rfl
  have g__law_is_true := He.glo_ok X G (cd.fact 18 (f := .glo "_law_is_true") rfl)
  have D__law_is_true : DefAt K mg "_law_is_true" s_law_is_true ["_law_found", "_law_due"] _ fd__law_is_true := ⟨F__law_is_true, g__law_is_true, FunD.bindsN F__law_is_true fun _ _ _ _ _ _ us hl => match us, hl with | [_, _], _ => rfl⟩
  obtain ⟨fd__law_odd_things, F__law_odd_things⟩ := cd.def_ 19 (d := d_law_odd_things) rfl
  have g__law_odd_things := He.glo_ok X G (cd.fact 19 (f := .glo "_law_odd_things") rfl)
  have D__law_odd_things : DefAt K mg "_law_odd_things" s_law_odd_things [] _ fd__law_odd_things := ⟨F__law_odd_things, g__law_odd_things, FunD.bindsN F__law_odd_things fun _ _ _ _ _ _ us hl => match us, hl with | [], _ => rfl⟩
  obtain ⟨fd__law_outs, F__law_outs⟩ := cd.def_ 20 (d := d_law_outs) rfl
  have g__law_outs := He.glo_ok X G (cd.fact 20 (f := .glo "_law_outs") rfl)
  have D__law_outs : DefAt K mg "_law_outs" s_law_outs ["_law_web_here", "_law_ways"] _ fd__law_outs := ⟨F__law_outs, g__law_outs, FunD.bindsN F__law_outs fun _ _ _ _ _ _ us hl => match us, hl with | [_, _], _ => rfl⟩
  obtain ⟨fd__law_is_lot, F__law_is_lot⟩ := cd.def_ 21 (d := d_law_is_lot) rfl
  have g__law_is_lot := He.glo_ok X G (cd.fact 21 (f := .glo "_law_is_lot") rfl)
  have D__law_is_lot : DefAt K mg "_law_is_lot" s_law_is_lot ["_law_web_here", "_law_thing"] _ fd__law_is_lot := ⟨F__law_is_lot, g__law_is_lot, FunD.bindsN F__law_is_lot fun _ _ _ _ _ _ us hl => match us, hl with | [_, _], _ => rfl⟩
  obtain ⟨fd__law_leads, F__law_leads⟩ := cd.def_ 22 (d := d_law_leads) rfl
  have g__law_leads := He.glo_ok X G (cd.fact 22 (f := .glo "_law_leads") rfl)
  have D__law_leads : DefAt K mg "_law_leads" s_law_leads ["_law_web_here", "_law_ways"] _ fd__law_leads := ⟨F__law_leads, g__law_leads, FunD.bindsN F__law_leads fun _ _ _ _ _ _ us hl => match us, hl with | [_, _], _ => rfl⟩
  obtain ⟨fd__law_come_to, F__law_come_to⟩ := cd.def_ 23 (d := d_law_come_to) rfl
  have g__law_come_to := He.glo_ok X G (cd.fact 23 (f := .glo "_law_come_to") rfl)
  have D__law_come_to : DefAt K mg "_law_come_to" s_law_come_to ["_law_leads_here", "_law_starts"] _ fd__law_come_to := ⟨F__law_come_to, g__law_come_to, FunD.bindsN F__law_come_to fun _ _ _ _ _ _ us hl => match us, hl with | [_, _], _ => rfl⟩
  obtain ⟨fd__law_root, F__law_root⟩ := cd.def_ 24 (d := d_law_root) rfl
  have g__law_root := He.glo_ok X G (cd.fact 24 (f := .glo "_law_root") rfl)
  have D__law_root : DefAt K mg "_law_root" s_law_root ["_law_deck_here", "_law_web_here"] _ fd__law_root := ⟨F__law_root, g__law_root, FunD.bindsN F__law_root fun _ _ _ _ _ _ us hl => match us, hl with | [_, _], _ => rfl⟩
  obtain ⟨fd__law_root_ways, F__law_root_ways⟩ := cd.def_ 25 (d := d_law_root_ways) rfl
  have g__law_root_ways := He.glo_ok X G (cd.fact 25 (f := .glo "_law_root_ways") rfl)
  have D__law_root_ways : DefAt K mg "_law_root_ways" s_law_root_ways ["_law_deck_here", "_law_web_here", "_law_root_here"] _ fd__law_root_ways := ⟨F__law_root_ways, g__law_root_ways, FunD.bindsN F__law_root_ways fun _ _ _ _ _ _ us hl => match us, hl with | [_, _, _], _ => rfl⟩
  obtain ⟨fd__law_evened, F__law_evened⟩ := cd.def_ 26 (d := d_law_evened) rfl
  have g__law_evened := He.glo_ok X G (cd.fact 26 (f := .glo "_law_evened") rfl)
  have D__law_evened : DefAt K mg "_law_evened" s_law_evened ["_law_web_here", "_law_root_here", "_law_ways"] _ fd__law_evened := ⟨F__law_evened, g__law_evened, FunD.bindsN F__law_evened fun _ _ _ _ _ _ us hl => match us, hl with | [_, _, _], _ => rfl⟩
  obtain ⟨fd__law_turned, F__law_turned⟩ := cd.def_ 27 (d := d_law_turned) rfl
  have g__law_turned := He.glo_ok X G (cd.fact 27 (f := .glo "_law_turned") rfl)
  have D__law_turned : DefAt K mg "_law_turned" s_law_turned ["_law_web_here", "_law_ways", "_law_start", "_law_end"] _ fd__law_turned := ⟨F__law_turned, g__law_turned, FunD.bindsN F__law_turned fun _ _ _ _ _ _ us hl => match us, hl with | [_, _, _, _], _ => rfl⟩
  obtain ⟨fd__law_even_paper, F__law_even_paper⟩ := cd.def_ 28 (d := d_law_even_paper) rfl
  have g__law_even_paper := He.glo_ok X G (cd.fact 28 (f := .glo "_law_even_paper") rfl)
  have D__law_even_paper : DefAt K mg "_law_even_paper" s_law_even_paper ["_law_web_here", "_law_root_here", "_law_ways"] _ fd__law_even_paper := ⟨F__law_even_paper, g__law_even_paper, FunD.bindsN F__law_even_paper fun _ _ _ _ _ _ us hl => match us, hl with | [_, _, _], _ => rfl⟩
  obtain ⟨fd__law_are_ways, F__law_are_ways⟩ := cd.def_ 29 (d := d_law_are_ways) rfl
  have g__law_are_ways := He.glo_ok X G (cd.fact 29 (f := .glo "_law_are_ways") rfl)
  have D__law_are_ways : DefAt K mg "_law_are_ways" s_law_are_ways ["_law_web_here", "_law_thing"] _ fd__law_are_ways := ⟨F__law_are_ways, g__law_are_ways, FunD.bindsN F__law_are_ways fun _ _ _ _ _ _ us hl => match us, hl with | [_, _], _ => rfl⟩
  obtain ⟨fd__law_is_even, F__law_is_even⟩ := cd.def_ 30 (d := d_law_is_even) rfl
  have g__law_is_even := He.glo_ok X G (cd.fact 30 (f := .glo "_law_is_even") rfl)
  have D__law_is_even : DefAt K mg "_law_is_even" s_law_is_even ["_law_web_here", "_law_root_here", "_law_thing"] _ fd__law_is_even := ⟨F__law_is_even, g__law_is_even, FunD.bindsN F__law_is_even fun _ _ _ _ _ _ us hl => match us, hl with | [_, _, _], _ => rfl⟩
  obtain ⟨fd__law_bent_lots, F__law_bent_lots⟩ := cd.def_ 31 (d := d_law_bent_lots) rfl
  have g__law_bent_lots := He.glo_ok X G (cd.fact 31 (f := .glo "_law_bent_lots") rfl)
  have D__law_bent_lots : DefAt K mg "_law_bent_lots" s_law_bent_lots ["_law_deck_here", "_law_web_here", "_law_lots"] _ fd__law_bent_lots := ⟨F__law_bent_lots, g__law_bent_lots, FunD.bindsN F__law_bent_lots fun _ _ _ _ _ _ us hl => match us, hl with | [_, _, _], _ => rfl⟩
  obtain ⟨fd__law_lots_of, F__law_lots_of⟩ := cd.def_ 32 (d := d_law_lots_of) rfl
  have g__law_lots_of := He.glo_ok X G (cd.fact 32 (f := .glo "_law_lots_of") rfl)
  have D__law_lots_of : DefAt K mg "_law_lots_of" s_law_lots_of ["_law_web_here", "_law_root_here", "_law_ways"] _ fd__law_lots_of := ⟨F__law_lots_of, g__law_lots_of, FunD.bindsN F__law_lots_of fun _ _ _ _ _ _ us hl => match us, hl with | [_, _, _], _ => rfl⟩
  obtain ⟨fd__law_odd_points, F__law_odd_points⟩ := cd.def_ 33 (d := d_law_odd_points) rfl
  have g__law_odd_points := He.glo_ok X G (cd.fact 33 (f := .glo "_law_odd_points") rfl)
  have D__law_odd_points : DefAt K mg "_law_odd_points" s_law_odd_points ["_law_deck_here", "_law_lots"] _ fd__law_odd_points := ⟨F__law_odd_points, g__law_odd_points, FunD.bindsN F__law_odd_points fun _ _ _ _ _ _ us hl => match us, hl with | [_, _], _ => rfl⟩
  obtain ⟨fd__law_bent_ways, F__law_bent_ways⟩ := cd.def_ 34 (d := d_law_bent_ways) rfl
  have g__law_bent_ways := He.glo_ok X G (cd.fact 34 (f := .glo "_law_bent_ways") rfl)
  have D__law_bent_ways : DefAt K mg "_law_bent_ways" s_law_bent_ways ["_law_deck_here", "_law_web_here", "_law_ways"] _ fd__law_bent_ways := ⟨F__law_bent_ways, g__law_bent_ways, FunD.bindsN F__law_bent_ways fun _ _ _ _ _ _ us hl => match us, hl with | [_, _, _], _ => rfl⟩
  obtain ⟨fd_law, F_law⟩ := cd.def_ 35 (d := d_law) rfl
  have g_law := He.glo_ok X G (cd.fact 35 (f := .glo "law") rfl)
  have D_law : DefAt K mg "law" s_law ["_law_script"] _ fd_law := ⟨F_law, g_law, FunD.bindsN F_law fun _ _ _ _ _ _ us hl => match us, hl with | [_], _ => rfl⟩
  have T : Blt mg := ⟨He.free_ok X G (cd.fact 36 (f := .free "all") rfl), He.free_ok X G (cd.fact 37 (f := .free "bool") rfl), He.free_ok X G (cd.fact 38 (f := .free "enumerate") rfl), He.free_ok X G (cd.fact 39 (f := .free "int") rfl), He.free_ok X G (cd.fact 40 (f := .free "isinstance") rfl), He.free_ok X G (cd.fact 41 (f := .free "len") rfl), He.free_ok X G (cd.fact 42 (f := .free "list") rfl), He.free_ok X G (cd.fact 43 (f := .free "max") rfl), He.free_ok X G (cd.fact 44 (f := .free "min") rfl), He.free_ok X G (cd.fact 45 (f := .free "range") rfl), He.free_ok X G (cd.fact 46 (f := .free "reversed") rfl), He.free_ok X G (cd.fact 47 (f := .free "set") rfl), He.free_ok X G (cd.fact 48 (f := .free "sorted") rfl), He.free_ok X G (cd.fact 49 (f := .free "tuple") rfl), He.free_ok X G (cd.fact 50 (f := .free "zip") rfl)⟩
  cases hfa.symm.trans g_law
  obtain ⟨cc_is_ways, hcd_is_ways⟩ := code_at F_is_ways
  obtain ⟨cc_is_closed, hcd_is_closed⟩ := code_at F_is_closed
  obtain ⟨cc_are_closed, hcd_are_closed⟩ := code_at F_are_closed
  have bl := FunD.bindsA (ps := ["_law_script"]) F_law fun _ _ _ _ _ _ us hl => match us, hl with | [_], _ => rfl
  refine ⟨fd_law, tf.map (He.cT K), sp_law K (tf.map fun p => (He.cT K p).2), fun p hp => ?_, fun p hp => ?_, fun p hp => ?_, fun s v => bl s [v] rfl, fun H a ns hl hbits hH hS => ?_, fun base KB GB hTB => ?_⟩
  · obtain ⟨d, hd, rfl⟩ := List.mem_map.mp hp
    exact c.empty d hd
  · obtain ⟨d, hd, rfl⟩ := List.mem_map.mp hp
    exact c.out d hd
  · obtain ⟨d, hd, rfl⟩ := List.mem_map.mp hp
    exact PySem.W.codeHd_of_K X (c.hd d hd)
  · exact law_start hl hbits (fun P hP => by
      obtain ⟨d, hd, rfl⟩ := List.mem_map.mp hP
      exact ⟨#[], hH _ (List.mem_map.mpr ⟨d, hd, rfl⟩), trivial, rfl⟩) hS
  · have G_is_number := ok_is_number (P := PySem.Challenge.rw_fewforests_k61_bent_even.prog) (w := w) (base := base) (tb := tf.map fun p => (He.cT K p).2) T D_is_number
    have G_is_rising := ok_is_rising (P := PySem.Challenge.rw_fewforests_k61_bent_even.prog) (w := w) (base := base) (tb := tf.map fun p => (He.cT K p).2) T D_is_rising D_is_number G_is_number
    have G_shares_of := ok_shares_of (P := PySem.Challenge.rw_fewforests_k61_bent_even.prog) (w := w) (base := base) (tb := tf.map fun p => (He.cT K p).2) T D_shares_of
    have G_is_lot := ok_is_lot (P := PySem.Challenge.rw_fewforests_k61_bent_even.prog) (w := w) (base := base) (tb := tf.map fun p => (He.cT K p).2) T D_is_lot D_is_rising G_is_rising
    have G_is_ways := ok_is_ways (P := PySem.Challenge.rw_fewforests_k61_bent_even.prog) (w := w) (base := base) (tb := tf.map fun p => (He.cT K p).2) T D_is_ways D_is_number G_is_number (hTB (He.cT K ("is_ways", none)) (List.mem_map.mpr ⟨("is_ways", none), by decide, rfl⟩)) (code_is F_is_ways hcd_is_ways) (List.mem_map.mpr ⟨("is_ways", none), by decide, rfl⟩)
    have G_is_closed := ok_is_closed (P := PySem.Challenge.rw_fewforests_k61_bent_even.prog) (w := w) (base := base) (tb := tf.map fun p => (He.cT K p).2) T D_is_closed D_is_lot G_is_lot (hTB (He.cT K ("is_closed", none)) (List.mem_map.mpr ⟨("is_closed", none), by decide, rfl⟩)) (code_is F_is_closed hcd_is_closed) (List.mem_map.mpr ⟨("is_closed", none), by decide, rfl⟩)
    have G_are_closed := ok_are_closed (P := PySem.Challenge.rw_fewforests_k61_bent_even.prog) (w := w) (base := base) (tb := tf.map fun p => (He.cT K p).2) T D_are_closed D_shares_of G_shares_of D_is_closed G_is_closed (hTB (He.cT K ("are_closed", none)) (List.mem_map.mpr ⟨("are_closed", none), by decide, rfl⟩)) (code_is F_are_closed hcd_are_closed) (List.mem_map.mpr ⟨("are_closed", none), by decide, rfl⟩)
    have G_right_even := ok_right_even (P := PySem.Challenge.rw_fewforests_k61_bent_even.prog) (w := w) (base := base) (tb := tf.map fun p => (He.cT K p).2) T D_right_even D_is_ways G_is_ways D_are_closed G_are_closed
    have G__law_mixed := ok__law_mixed (P := PySem.Challenge.rw_fewforests_k61_bent_even.prog) (w := w) (base := base) (tb := tf.map fun p => (He.cT K p).2) T D__law_mixed
    have G__law_deck := ok__law_deck (P := PySem.Challenge.rw_fewforests_k61_bent_even.prog) (w := w) (base := base) (tb := tf.map fun p => (He.cT K p).2) T D__law_deck D__law_mixed G__law_mixed
    have G__law_next := ok__law_next (P := PySem.Challenge.rw_fewforests_k61_bent_even.prog) (w := w) (base := base) (tb := tf.map fun p => (He.cT K p).2) T D__law_next
    have G__law_tie := ok__law_tie (P := PySem.Challenge.rw_fewforests_k61_bent_even.prog) (w := w) (base := base) (tb := tf.map fun p => (He.cT K p).2) T D__law_tie D__law_next G__law_next
    have G__law_any_web := ok__law_any_web (P := PySem.Challenge.rw_fewforests_k61_bent_even.prog) (w := w) (base := base) (tb := tf.map fun p => (He.cT K p).2) T D__law_any_web D__law_next G__law_next D__law_tie G__law_tie
    have G__law_round := ok__law_round (P := PySem.Challenge.rw_fewforests_k61_bent_even.prog) (w := w) (base := base) (tb := tf.map fun p => (He.cT K p).2) T D__law_round
    have G__law_full := ok__law_full (P := PySem.Challenge.rw_fewforests_k61_bent_even.prog) (w := w) (base := base) (tb := tf.map fun p => (He.cT K p).2) T D__law_full
    have G__law_tree := ok__law_tree (P := PySem.Challenge.rw_fewforests_k61_bent_even.prog) (w := w) (base := base) (tb := tf.map fun p => (He.cT K p).2) T D__law_tree D__law_next G__law_next
    have G__law_web := ok__law_web (P := PySem.Challenge.rw_fewforests_k61_bent_even.prog) (w := w) (base := base) (tb := tf.map fun p => (He.cT K p).2) T D__law_web D__law_next G__law_next D__law_any_web G__law_any_web D__law_round G__law_round D__law_full G__law_full D__law_tree G__law_tree
    have G__law_is_int := ok__law_is_int (P := PySem.Challenge.rw_fewforests_k61_bent_even.prog) (w := w) (base := base) (tb := tf.map fun p => (He.cT K p).2) T D__law_is_int
    have G__law_is_true := ok__law_is_true (P := PySem.Challenge.rw_fewforests_k61_bent_even.prog) (w := w) (base := base) (tb := tf.map fun p => (He.cT K p).2) T D__law_is_true
    have G__law_odd_things := ok__law_odd_things (P := PySem.Challenge.rw_fewforests_k61_bent_even.prog) (w := w) (base := base) (tb := tf.map fun p => (He.cT K p).2) T D__law_odd_things
    have G__law_outs := ok__law_outs (P := PySem.Challenge.rw_fewforests_k61_bent_even.prog) (w := w) (base := base) (tb := tf.map fun p => (He.cT K p).2) T D__law_outs
    have G__law_is_lot := ok__law_is_lot (P := PySem.Challenge.rw_fewforests_k61_bent_even.prog) (w := w) (base := base) (tb := tf.map fun p => (He.cT K p).2) T D__law_is_lot D__law_is_int G__law_is_int
    have G__law_leads := ok__law_leads (P := PySem.Challenge.rw_fewforests_k61_bent_even.prog) (w := w) (base := base) (tb := tf.map fun p => (He.cT K p).2) T D__law_leads
    have G__law_come_to := ok__law_come_to (P := PySem.Challenge.rw_fewforests_k61_bent_even.prog) (w := w) (base := base) (tb := tf.map fun p => (He.cT K p).2) T D__law_come_to
    have G__law_root := ok__law_root (P := PySem.Challenge.rw_fewforests_k61_bent_even.prog) (w := w) (base := base) (tb := tf.map fun p => (He.cT K p).2) T D__law_root D__law_next G__law_next
    have G__law_root_ways := ok__law_root_ways (P := PySem.Challenge.rw_fewforests_k61_bent_even.prog) (w := w) (base := base) (tb := tf.map fun p => (He.cT K p).2) T D__law_root_ways D__law_next G__law_next
    have G__law_turned := ok__law_turned (P := PySem.Challenge.rw_fewforests_k61_bent_even.prog) (w := w) (base := base) (tb := tf.map fun p => (He.cT K p).2) T D__law_turned
    have G__law_evened := ok__law_evened (P := PySem.Challenge.rw_fewforests_k61_bent_even.prog) (w := w) (base := base) (tb := tf.map fun p => (He.cT K p).2) T D__law_evened D__law_outs G__law_outs D__law_leads G__law_leads D__law_come_to G__law_come_to D__law_turned G__law_turned
    have G__law_lots_of := ok__law_lots_of (P := PySem.Challenge.rw_fewforests_k61_bent_even.prog) (w := w) (base := base) (tb := tf.map fun p => (He.cT K p).2) T D__law_lots_of D__law_outs G__law_outs D__law_leads G__law_leads D__law_come_to G__law_come_to
    have G__law_even_paper := ok__law_even_paper (P := PySem.Challenge.rw_fewforests_k61_bent_even.prog) (w := w) (base := base) (tb := tf.map fun p => (He.cT K p).2) T D__law_even_paper D__law_evened G__law_evened D__law_lots_of G__law_lots_of
    have G__law_are_ways := ok__law_are_ways (P := PySem.Challenge.rw_fewforests_k61_bent_even.prog) (w := w) (base := base) (tb := tf.map fun p => (He.cT K p).2) T D__law_are_ways D__law_is_int G__law_is_int
    have G__law_is_even := ok__law_is_even (P := PySem.Challenge.rw_fewforests_k61_bent_even.prog) (w := w) (base := base) (tb := tf.map fun p => (He.cT K p).2) T D__law_is_even D__law_outs G__law_outs D__law_is_lot G__law_is_lot D__law_leads G__law_leads D__law_are_ways G__law_are_ways
    have G__law_bent_lots := ok__law_bent_lots (P := PySem.Challenge.rw_fewforests_k61_bent_even.prog) (w := w) (base := base) (tb := tf.map fun p => (He.cT K p).2) T D__law_bent_lots D__law_next G__law_next
    have G__law_odd_points := ok__law_odd_points (P := PySem.Challenge.rw_fewforests_k61_bent_even.prog) (w := w) (base := base) (tb := tf.map fun p => (He.cT K p).2) T D__law_odd_points D__law_next G__law_next
    have G__law_bent_ways := ok__law_bent_ways (P := PySem.Challenge.rw_fewforests_k61_bent_even.prog) (w := w) (base := base) (tb := tf.map fun p => (He.cT K p).2) T D__law_bent_ways D__law_next G__law_next
    have G_law := ok_law (P := PySem.Challenge.rw_fewforests_k61_bent_even.prog) (w := w) (base := base) (tb := tf.map fun p => (He.cT K p).2) T D_law D_right_even G_right_even D__law_deck G__law_deck D__law_web G__law_web D__law_is_true G__law_is_true D__law_odd_things G__law_odd_things D__law_root G__law_root D__law_root_ways G__law_root_ways D__law_even_paper G__law_even_paper D__law_is_even G__law_is_even D__law_bent_lots G__law_bent_lots D__law_odd_points G__law_odd_points D__law_bent_ways G__law_bent_ways
    exact G_law
end FF
open PySem PySem.W PySem.Calls PyProof.Rows
theorem PySem.Challenge.cw_fewforests_k61_bent_even_holds : PySem.Challenge.rw_fewforests_k61_bent_even.Holds := by
  w_on; o_law
  refine HandSHeadRun.head_any (r := OpenLaw.row PySem.Challenge.rw_fewforests_k61_bent_even) (q := view (OpenLaw.row PySem.Challenge.rw_fewforests_k61_bent_even).prog [40]) (H := FF.hk) (ob := FF.ob) (M := 3000) (loose := FF.loose) (d := HandSHeadRun.topDef (OpenLaw.row PySem.Challenge.rw_fewforests_k61_bent_even).prog 40) (kwd := []) FF.ob_eq
    (by kernel_rfl) (fun s => by kernel_rfl) FF.run (by kernel_rfl) (by kernel_rfl) (by kernel_rfl) (by rfl) (by first | assumption | decide +kernel) (by decide +kernel) ⟨rfl, rfl, rfl, rfl, rfl, by decide +kernel⟩ ?hw ?hc
  case hw => w_witness2
  case hc =>
    skip
    refine LamX.walk_ofTsE (l := PySem.Challenge.rw_fewforests_k61_bent_even) (n := 63) (k := 11) (x := "_law_script") (CX := fun _ => L2.CX0) rfl (by decide) (by kernel_rfl) ⟨rfl, by decide, by decide⟩ ?F (fun _ _ _ _ _ z => z)
    intro w mg fa h Y G hmg0
    obtain ⟨K, KX, c⟩ := Y
    have hmg : mg ("law" : PySem.Str) = some (.ref fa) := by
      have e : (HandSHeadRun.topDef (OpenLaw.row PySem.Challenge.rw_fewforests_k61_bent_even).prog 40).name = ("law" : PySem.Str) := by kernel_rfl
      rw [← e]
      exact hmg0
    exact ⟨K, KX, FF.lawAt KX G hmg c⟩
