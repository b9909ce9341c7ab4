import PyProof.Rows.All
import Wide.All
import OpenK.AllK
import Wide.FinOn
import HandS.ForMost
import HandS.Rev
import HandS.RevTup
import PyProof.ListStr
import HandS.Style
import HandS.IsInst
import HandS.Walk
import HandS.Codes
import PySem.Challenge.RW_askladder_k02_names_and_figures
set_option Elab.async false
set_option maxRecDepth 100000
set_option maxHeartbeats 1000000
/-! list(reversed(x)), x a list: a new list -/
namespace Ak
open PySem PySem.Spec PyProof.Rows L2 RT
/-- the new list's maker, called on the iterator that goes down a list -/
theorem list_of_down {P : Program} {w : World} {B : Around} {X : Value → Shared → Prop} {z : Shared} {Want : Value → Shared → Prop} {it src : Addr} {vs : Array Value} (calm : B.handled = none) (small : vs.size ≤ sizeLine)
    (at_it : z.heap.IsRevIter it src ((vs.size : Int) - 1)) (at_src : z.heap.IsList src vs) (apart : src ≠ it)
    (goal : ∀ (g : Heap) (tk : Nat) (got : Array Value) (c : Nat), (∀ b o, b ≠ it → z.heap.get? b = some o → g.get? b = some o) → g.get? z.heap.objs.size = some { cls := .type "list", dict := none, data := .seq got c, slots := #[] } →
      ItemsOf (fun i v => vs[vs.size - 1 - i]? = some v) got vs.size → Want (.ref z.heap.objs.size) { z with heap := g, toks := tk }) : wpAny (model P w) B (call (.type "list") [.ref it]) Want X z := by
  obtain ⟨o1, e1, _⟩ := id at_it
  obtain ⟨o2, e2, _⟩ := id at_src
  have n1 := Nat.ne_of_gt (Heap.lt_size e1); have n2 := Nat.ne_of_gt (Heap.lt_size e2)
  refine callType_codes F.called_list (F.typeCall_list_1 _) F.entry_list_init (code_list_new (Q₁ := fun r q => r = .ref z.heap.objs.size ∧ q = { z with heap := z.heap.push { cls := .type "list", data := .seq #[] } }) _ ⟨rfl, rfl⟩) ?_
  rintro _ _ ⟨rfl, rfl⟩
  have new0 := Heap.get?_push_size (o := ({ cls := .type "list", data := .seq #[] } : Obj)) z.heap rfl
  have at_it1 := at_it.at (h' := z.heap.push { cls := .type "list", data := .seq #[] }) fun o e => Heap.get?_push_of_some _ e
  have at_src1 := at_src.push { cls := .type "list", data := .seq #[] }
  refine ⟨⟨_, new0, rfl⟩, F.args_list_init_2 _ _, ?_⟩
  generalize hz : z.heap.objs.size = S at *
  have same : ∀ {b : Addr} {o : Obj}, b ≠ S → (z.heap.push { cls := .type "list", data := .seq #[] }).get? b = some o → ((z.heap.push { cls := .type "list", data := .seq #[] }).update S (Obj.mapSeq fun _ => #[])).get? b = some o := fun nb e => by
    rw [Heap.get?_update_other _ _ (Ne.symm nb)]; exact e
  refine wpAny_bind (m := Builtin.List.listItems (.ref S)) ?_
  unfold Builtin.List.listItems; refine wpAny_bind (wpAny_seqItems new0 rfl (wpAny_pure ?_))
  refine wpAny_bind (m := Builtin.List.listUpdate (.ref S) fun _ => #[]) ?_
  refine wpAny_updateSeq (f := fun _ => #[]) new0 rfl (wpAny_bind (wpAny_letGo ?_))
  have new1 := Heap.get?_update_self (Obj.mapSeq fun _ => #[]) new0 rfl
  have at_it2 := at_it1.at fun o e => same n1.symm e
  have at_src2 : ((z.heap.push { cls := .type "list", data := .seq #[] }).update S (Obj.mapSeq fun _ => #[])).IsList src vs := let ⟨o, e, r⟩ := at_src1; ⟨o, same n2.symm e, r⟩
  have ty := Heap.IsRevIter.typeIs (s := { z with heap := (z.heap.push { cls := .type "list", data := .seq #[] }).update S (Obj.mapSeq fun _ => #[]) }) at_it2
  have other : Builtin.List.listSameRef (.ref S) (.ref it) = false := by simp [Builtin.List.listSameRef, n1]
  unfold Builtin.List.listExtendWith; refine wpAny_bind (wpAny_typeOf ty ?_); rw [if_neg (by rw [other]; decide)]
  refine wpAny_bind (wpAny_pyIter_revIter (s := { z with heap := (z.heap.push { cls := .type "list", data := .seq #[] }).update S (Obj.mapSeq fun _ => #[]) }) at_it2 (wpAny_bind (wpAny_holding ?_)))
  unfold Builtin.List.listLengthHint; refine wpAny_bind (wpAny_specialOf ty nolen_lri (wpAny_bind (m := specialOf (.ref it) (Str.ofString "__length_hint__")) (wpAny_specialOf ty hint_lri ?_)))
  generalize idd : ("list_reverseiterator.__length_hint__" : String) = hint
  wp_delta
  have cut : splitId hint = some ("list_reverseiterator", "__length_hint__") := by subst idd; decide +kernel
  rw [cut]; subst idd
  refine wpAny_bind (wpAny_isInstance (b := true) ty (by rw [isSubtype_type]; kernel_rfl) (wpAny_pure ?_)); rw [if_neg (by decide)]
  have walks := (Walks.listRev (prog := P) (w := w) (A := B.in1.in1) calm it src apart vs).toS
  have out : S ∉ [it, src] := fun m => by simp only [List.mem_cons, List.not_mem_nil, or_false] at m; exact m.elim n1 n2
  have top : (vs.size : Int) - 1 - ((0 : Nat) : Int) = (vs.size : Int) - 1 := by omega
  refine wpAny_pure ⟨plainId_quiet F.plain_extend_loop _, codeAny_extend_loopS walks small S out Value.none vs.size 0 _ #[] _ rfl (Nat.zero_le _) ⟨Nat.zero_le _, by rw [top]; exact at_it2, at_src2⟩ new1 (ItemsOf.nil _) ?_⟩
  intro q got c moved stands items
  rw [moved.eq_with]
  refine ⟨rfl, goal q.heap q.toks got c (fun b o nb e => moved.heap b o (fun m => ?_) (same ?_ (Heap.get?_push_of_some _ e))) stands items⟩
  · exact (List.mem_cons.mp m).elim (fun x => Nat.ne_of_lt (Heap.lt_size e) (x.trans hz.symm)) fun x => nb (List.mem_singleton.mp x)
  · exact fun x => Nat.ne_of_lt (Heap.lt_size e) (x.trans hz.symm)
/-- list(reversed(x)): x a list, what comes a new one -/
def tLstRev (K : PySem.W.Frag) (te : TE) : TE := fun σ H Q => te σ H fun v H1 => ∃ (a : Addr) (xs : List V), v = .ref a ∧ SqL K H1 a xs ∧ ∀ q, H1 q = none → Q (.ref q) (upd H1 q (.lst xs.reverse))
theorem pe_lstRev {X : Cx} {e : Expr} {te : TE} {p p2 pos pos2 : Pos} (calm : X.calm = true) (g1 : Gl X "list") (m1 : X.mg "list" = none) (g2 : Gl X "reversed") (m2 : X.mg "reversed" = none) (he : PE X e te)
    (one : starEach [e] X.env = [(false, eval e X.env)] := by rfl) (two : starEach [.Call (.Name "reversed" p2) [e] [] pos2] X.env = [(false, eval (.Call (.Name "reversed" p2) [e] [] pos2) X.env)] := by rfl) :
    PE X (.Call (.Name "list" p) [.Call (.Name "reversed" p2) [e] [] pos2] [] pos) (tLstRev X.K te) := by
  constructor
  intro pins s σ H Q I reading
  refine Call_ (ld_blt I g1 m1 PyProof.Rows.boot_list (PyProof.Rows.callWith_type1 (args_cons (Call_ ?_) two) two rfl))
  refine ld_blt I g2 m2 PyProof.Rows.boot_reversed (PyProof.Rows.callWith_type1 (args_cons (thn (he.run pins s σ H _ I reading) ?_) one) one rfl)
  rintro v z ⟨_, J, IJ, rv, src, xs, rfl, seq, rest⟩
  obtain rfl : v = Value.ref src := rv
  obtain ⟨us, rel, stands, small⟩ := IJ.list seq
  refine args_nil (call_reversed_list stands.isList (args_nil ?_))
  have small' : us.toArray.size ≤ sizeLine := by have e := rel.length; simp only [List.size_toArray]; omega
  have isl := stands.isList.push (revObj src ((us.toArray.size : Int) - 1))
  have grown := IJ.kept (h' := z.heap.push (revObj src ((us.toArray.size : Int) - 1))) (t' := z.toks) fun _ _ x => Heap.get?_push_of_some _ x
  have free1 := IJ.fpOk (Nat.le_refl _) (IJ.hok.fresh (Nat.le_refl z.heap.objs.size))
  have apart : src ≠ z.heap.objs.size := let ⟨_, x, _⟩ := id stands.isList; Nat.ne_of_lt (Heap.lt_size x)
  have iter : (z.heap.push (revObj src ((us.toArray.size : Int) - 1))).IsRevIter z.heap.objs.size src ((us.toArray.size : Int) - 1) := ⟨_, Heap.get?_push_size _ rfl, rfl, rfl⟩
  generalize hh : z.heap.push (revObj src ((us.toArray.size : Int) - 1)) = h1 at *
  have none2 := grown.hok.fresh (Nat.le_refl h1.objs.size)
  have free2 := grown.fpOk (Nat.le_refl _) none2
  refine list_of_down (z := { z with heap := h1 }) (IJ.ok.hd calm) small' iter isl apart fun g tk got c kept made items => ?_
  have noIt : ∀ {b : Addr} {u : HO}, J b = some u → b ≠ z.heap.objs.size := fun e x => by rw [x, free1.1] at e; cases e
  have old : ∀ {b : Addr} {u : HO}, J b = some u → b ≠ h1.objs.size := fun e => ne_of_none e none2
  have held : HOk X.prog X.w (upd J h1.objs.size (.lst xs.reverse)) g := by
    intro b u e
    by_cases eb : b = h1.objs.size
    · subst eb
      rw [upd_same] at e; cases e
      exact ⟨Nat.le_trans (Nat.le_of_eq List.length_reverse) small, got.toList, c, vals_rev rel items, by simpa using made⟩
    · rw [upd_ne eb] at e
      exact (grown.hok b u e).stay (fun d v at_ q => kept d v (at_.elim (fun x => x ▸ noIt e) fun x => noIt x) q) (fun d q => (upd_ne (old q)).trans q) fun d ys q => (upd_ne (old q)).trans q
  have changed : ∀ {b : Addr}, b ∉ [z.heap.objs.size, h1.objs.size] → b ≠ z.heap.objs.size ∧ b ≠ h1.objs.size := fun n => ⟨fun x => n (by simp [x]), fun x => n (by simp [x])⟩
  refine ⟨.ref h1.objs.size, upd J h1.objs.size (.lst xs.reverse), grown.step (ch := [z.heap.objs.size, h1.objs.size]) (g' := z.gens) (d' := z.drawn) (t' := tk) ?_ (fun b o _ _ n e _ => kept b o (changed n).1 e) (fun b o _ _ n e _ => ⟨_, kept b o (changed n).1 e⟩)
    (fun b o n _ e => (upd_ne (changed n).2).trans e) (fun b o n e => ⟨o, kept b o (changed n).1 e⟩) (fun b ys e => (upd_ne (old e)).trans e) (fun b o u e => (upd_ne (old e)).trans e) (fun b ps e => ⟨#[], by rw [upd_ne (old e), e, Array.append_empty]⟩) ?_ held IJ.bare, rfl, rest _ none2⟩
  · intro b m
    rcases (by simpa using m : b = z.heap.objs.size ∨ b = h1.objs.size) with rfl | rfl
    · exact ⟨free1.2.2.2.1, free1.2.1, free1.2.2.2.2⟩
    · exact ⟨free2.2.2.2.1, free2.2.1, free2.2.2.2.2⟩
  · rintro m ⟨o, es, ep, e, r⟩
    exact ⟨o, es, ep, kept _ o (Ne.symm free1.2.1) e, r⟩
end Ak
/-! What all the laws' proofs share: a def as the top left it; the box of draws (a dict with a seed, a number, a list of numbers left). -/
namespace Ak
open PySem L2

/-- a def of the top, called by its name -/
structure Fn (K : PySem.W.Frag) (mg : Str → Option Value) (nm : Str) (st : Stmt) (ps : List Str) (f : Addr) (fd : FuncData) : Prop where
  mg : mg nm = some (.ref f)
  kp : PySem.W.keepIn K (.ref f) = true
  F : Fun K nm nm st f fd
  b : Binds K fd ps []

/-! ### the box of draws -/
theorem kSN : ¬ ((Sum.inr ("seed" : Str) : Key) = Sum.inr ("number" : Str)) := by decide +kernel
theorem kSL : ¬ ((Sum.inr ("seed" : Str) : Key) = Sum.inr ("left" : Str)) := by decide +kernel
theorem kNL : ¬ ((Sum.inr ("number" : Str) : Key) = Sum.inr ("left" : Str)) := by decide +kernel
theorem kNS : ¬ ((Sum.inr ("number" : Str) : Key) = Sum.inr ("seed" : Str)) := by decide +kernel
theorem kLS : ¬ ((Sum.inr ("left" : Str) : Key) = Sum.inr ("seed" : Str)) := by decide +kernel
theorem kLN : ¬ ((Sum.inr ("left" : Str) : Key) = Sum.inr ("number" : Str)) := by decide +kernel
def dealL (s n : Int) (l : Addr) : List (Key × V) := [(Sum.inr ("seed" : Str), .int s), (Sum.inr ("number" : Str), .int n), (Sum.inr ("left" : Str), .ref l)]
theorem deal_seed (s n : Int) (l : Addr) : valV (dealL s n l) (Sum.inr ("seed" : Str)) = some (.int s) := valV_pos rfl
theorem deal_number (s n : Int) (l : Addr) : valV (dealL s n l) (Sum.inr ("number" : Str)) = some (.int n) := (valV_neg kSN).trans (valV_pos rfl)
theorem deal_left (s n : Int) (l : Addr) : valV (dealL s n l) (Sum.inr ("left" : Str)) = some (.ref l) := (valV_neg kSL).trans ((valV_neg kNL).trans (valV_pos rfl))
theorem deal_puts (s n x : Int) (l : Addr) : putK (dealL s n l) (Sum.inr ("seed" : Str)) (.int x) = dealL x n l := by
  have e1 := decide_eq_false kNS
  have e2 := decide_eq_false kLS
  unfold putK dealL
  rw [if_pos (by simp)]
  simp only [List.map_cons, List.map_nil, if_pos, if_neg kNS, if_neg kLS]
theorem deal_putn (s n x : Int) (l : Addr) : putK (dealL s n l) (Sum.inr ("number" : Str)) (.int x) = dealL s x l := by
  unfold putK dealL
  rw [if_pos (by simp)]
  simp only [List.map_cons, List.map_nil, if_pos, if_neg kSN, if_neg kLN]

theorem deal_gs {H : Hp} {d l : Addr} {s n : Int} (e : H d = some (.dK (dealL s n l))) : DGet H d (.str ("seed" : Str)) (some (.int s)) := by
  rw [← deal_seed s n l]; exact DGet.k (k := Sum.inr ("seed" : Str)) e
theorem deal_gn {H : Hp} {d l : Addr} {s n : Int} (e : H d = some (.dK (dealL s n l))) : DGet H d (.str ("number" : Str)) (some (.int n)) := by
  rw [← deal_number s n l]; exact DGet.k (k := Sum.inr ("number" : Str)) e
theorem deal_gl {H : Hp} {d l : Addr} {s n : Int} (e : H d = some (.dK (dealL s n l))) : DGet H d (.str ("left" : Str)) (some (.ref l)) := by
  rw [← deal_left s n l]; exact DGet.k (k := Sum.inr ("left" : Str)) e
theorem deal_ps {H : Hp} {d l : Addr} {s n : Int} (x : Int) (e : H d = some (.dK (dealL s n l))) : DPut H d (.str ("seed" : Str)) (.int x) (upd H d (.dK (dealL x n l))) := by
  rw [← deal_puts s n x l]; exact DPut.k (k := Sum.inr ("seed" : Str)) e (by show 3 < sizeLine; decide)
theorem deal_pn {H : Hp} {d l : Addr} {s n : Int} (x : Int) (e : H d = some (.dK (dealL s n l))) : DPut H d (.str ("number" : Str)) (.int x) (upd H d (.dK (dealL s x l))) := by
  rw [← deal_putn s n x l]; exact DPut.k (k := Sum.inr ("number" : Str)) e (by show 3 < sizeLine; decide)

theorem deal_merge (s n : Int) (l : Addr) : mergeK ([] : List (Key × V)) (dealL s n l) = dealL s n l := by
  show putK (putK (putK [] (Sum.inr ("seed" : Str)) (.int s)) (Sum.inr ("number" : Str)) (.int n)) (Sum.inr ("left" : Str)) (.ref l) = dealL s n l
  rw [putK_new (kvs := []) _ rfl, putK_new (kvs := [] ++ [(Sum.inr ("seed" : Str), V.int s)]) _ ((valV_neg kSN).trans rfl), putK_new (kvs := [] ++ [(Sum.inr ("seed" : Str), V.int s)] ++ [(Sum.inr ("number" : Str), V.int n)]) _ ((valV_neg kSL).trans ((valV_neg kNL).trans rfl))]
  rfl
def ab (x : Int) : Int := if 0 - x > x then 0 - x else x
theorem ab_nonneg (x : Int) : 0 ≤ ab x := by unfold ab; split <;> omega

/-- a comprehension's turn without a test -/
theorem lc_yes {A B : Hp → Prop} {σ : L2.St} {H : Hp} (h : A H) : tYes σ H (fun b H3 => if b = true then A H3 else B H3) := by
  show (if true = true then A H else B H)
  rw [if_pos rfl]
  exact h

/-! ### tests that change nothing: p is what they decide -/
def Dec (t : TT) (σ : L2.St) (H : Hp) (p : Prop) : Prop := ∀ Q : Bool → Hp → Prop, (p → Q true H) → (¬ p → Q false H) → t σ H Q
theorem dec_and {t u : TT} {σ : L2.St} {H : Hp} {p q : Prop} (h1 : Dec t σ H p) (h2 : p → Dec u σ H q) : Dec (tAnd t u) σ H (p ∧ q) := fun Q a b => h1 _ (fun hp => by
  show u σ H Q
  exact h2 hp Q (fun hq => a ⟨hp, hq⟩) fun hq => b fun z => hq z.2) fun hp => by
  show Q false H
  exact b fun z => hp z.1
theorem dec_or {t u : TT} {σ : L2.St} {H : Hp} {p q : Prop} (h1 : Dec t σ H p) (h2 : ¬ p → Dec u σ H q) : Dec (tOr t u) σ H (p ∨ q) := fun Q a b => h1 _ (fun hp => by
  show Q true H
  exact a (.inl hp)) fun hp => by
  show u σ H Q
  exact h2 hp Q (fun hq => a (.inr hq)) fun hq => b fun z => z.elim hp hq
theorem dec_not {t : TT} {σ : L2.St} {H : Hp} {p : Prop} (h1 : Dec t σ H p) : Dec (tNot t) σ H (¬ p) := fun Q a b => h1 _ (fun hp => b fun z => z hp) a
/-- a test is the value of an expression -/
theorem dec_of {te : TE} {σ : L2.St} {H : Hp} {p : Prop} [Decidable p] (h : ∀ Q : VK, Q (.bl (decide p)) H → te σ H Q) : Dec (tTest te) σ H p := fun Q a b => h _ ⟨_, rfl, by
  by_cases hp : p
  · rw [decide_eq_true hp]; exact a hp
  · rw [decide_eq_false hp]; exact b hp⟩
theorem dec_if {t : TT} {u v : TS} {D : Ends} {σ : L2.St} {H : Hp} {p : Prop} (h : Dec t σ H p) (h1 : p → u D σ H) (h2 : ¬ p → v D σ H) : tIfS t u v D σ H := h _ (fun hp => iteT (h1 hp)) fun hp => iteF (h2 hp)
theorem Dec.iff {t : TT} {σ : L2.St} {H : Hp} {p q : Prop} (h : Dec t σ H p) (e : p ↔ q) : Dec t σ H q := fun Q a b => h Q (fun x => a (e.mp x)) fun x => b fun y => x (e.mpr y)

/-- the box stands at d, its list at l -/
def DealAt (H : Hp) (d l : Addr) : Prop := ∃ (s n : Int) (left : List Int), 0 ≤ s ∧ s < 2147483647 ∧ 0 ≤ n ∧ (∀ x ∈ left, 0 ≤ x) ∧ H d = some (.dK (dealL s n l)) ∧ H l = some (.lst (left.map V.int))
theorem DealAt.ne {H : Hp} {d l : Addr} (h : DealAt H d l) : d ≠ l := by
  obtain ⟨s, n, left, _, _, _, _, h1, h2⟩ := h
  exact ne_of h1 h2 (by intro z; cases z)
/-- all that is tracked stands as it stood, but for the box -/
def Kp (d l : Addr) (H H' : Hp) : Prop := ∀ b o, H b = some o → b ≠ d → b ≠ l → H' b = some o
theorem Kp.refl (d l : Addr) (H : Hp) : Kp d l H H := fun _ _ e _ _ => e
theorem Kp.trans {d l : Addr} {H H1 H2 : Hp} (a : Kp d l H H1) (b : Kp d l H1 H2) : Kp d l H H2 := fun c o e h1 h2 => b c o (a c o e h1 h2) h1 h2
theorem Kp.same {d l : Addr} {H H' : Hp} (a : Same H H') : Kp d l H H' := fun c o e _ _ => a c o e
theorem Same.new {H : Hp} {p : Addr} {o : HO} (h : H p = none) : Same H (upd H p o) := fun b u e => by rw [upd_ne (ne_of_none e h)]; exact e
theorem DealAt.same {H H' : Hp} {d l : Addr} (h : DealAt H d l) (a : Same H H') : DealAt H' d l := by
  obtain ⟨s, n, left, h1, h2, h3, h4, h5, h6⟩ := h
  exact ⟨s, n, left, h1, h2, h3, h4, a _ _ h5, a _ _ h6⟩
theorem DealAt.not {H : Hp} {d l p : Addr} {o : HO} (h : DealAt H d l) (e : H p = some o) (n1 : ∀ kvs, o ≠ .dK kvs) (n2 : ∀ xs, o ≠ .lst xs) : p ≠ d ∧ p ≠ l := by
  obtain ⟨s, n, left, _, _, _, _, h1, h2⟩ := h
  exact ⟨ne_of e h1 (n1 _), ne_of e h2 (n2 _)⟩
theorem DealAt.new {H : Hp} {d l p : Addr} (h : DealAt H d l) (e : H p = none) : p ≠ d ∧ p ≠ l := by
  obtain ⟨s, n, left, _, _, _, _, h1, h2⟩ := h
  exact ⟨(ne_of_none h1 e).symm, (ne_of_none h2 e).symm⟩
theorem DealAt.upd {H : Hp} {d l p : Addr} {o : HO} (h : DealAt H d l) (n : p ≠ d ∧ p ≠ l) : DealAt (upd H p o) d l := by
  obtain ⟨s, m, left, h1, h2, h3, h4, h5, h6⟩ := h
  exact ⟨s, m, left, h1, h2, h3, h4, by rw [upd_ne n.1.symm]; exact h5, by rw [upd_ne n.2.symm]; exact h6⟩
/-- what is new may change -/
theorem Kp.mut {d l p : Addr} {H H1 H2 : Hp} {o : HO} (a : Kp d l H H1) (b : Kp d l H H2) (n : H1 p = none) : Kp d l H (L2.upd H2 p o) := fun c u e h1 h2 => by
  rw [upd_ne (ne_of_none (a c u e h1 h2) n)]
  exact b c u e h1 h2
/-- a draw: any number from 0 to n - 1 -/
def spDraw : Sp := fun vs H Q _ => ∃ (d l : Addr) (n : Int), vs = [.ref d, .int n] ∧ DealAt H d l ∧ 1 ≤ n ∧ n < 1073741824 ∧
  ∀ (r : Int) (H' : Hp), 0 ≤ r → r < n → DealAt H' d l → Kp d l H H' → Q (.int r) H'
/-- the box made of a script -/
def spDeal (K : PySem.W.Frag) : Sp := fun vs H Q _ => ∃ (a : Addr) (ns : List Int) (b : Int), vs = [.ref a, .int b] ∧ SqL K H a (ns.map V.int) ∧ ns.length ≤ 100 ∧ 0 ≤ b ∧ b ≤ 63 ∧
  ∀ (d l : Addr) (H' : Hp), H d = none → H l = none → DealAt H' d l → Same H H' → Q (.ref d) H'
end Ak
/-! texts: a loop, a comprehension over a text's signs; a new object -/
namespace Ak
open PySem L2
/-- a loop over a text's signs; a comprehension over them -/
def for_sign {x : Str} {g : TG} {tb : TS} {D : Ends} {σ : L2.St} {H : Hp} (Pv : Nat → L2.St → Hp → Prop) (h0 : Pv 0 σ H)
    (hs : ∀ (i c : Nat) (τ : L2.St) (J : Hp), x.cps[i]? = some c → Pv i τ J → g (.str ⟨#[c]⟩) τ J (tb { D with nx := Pv (i + 1), ct := Pv (i + 1), bk := D.nx })) (hd : ∀ τ J, Pv x.cps.size τ J → D.nx τ J) :=
  for_it (walk_str (z := x)) Pv h0 (fun _ _ _ _ _ => True.intro) (fun i v τ J J' _ p y => by obtain ⟨rfl, c, hc, rfl⟩ := y; exact hs i c τ _ hc p) hd
def lc_sign {x : Str} {g : TG} {tt : TT} {te : TE} {vs : List Nat} {σ : L2.St} {H1 : Hp} {D : Addr} {Qd : Hp → Prop} (Pv : Nat → Hp → Prop) (h0 : Pv 0 (upd H1 D (.lst [])))
    (hs : ∀ (i c : Nat) (J : Hp), x.cps[i]? = some c → Pv i J → g (.str ⟨#[c]⟩) (wipe σ vs) J fun τ J2 => wipe τ vs = wipe σ vs ∧ tt τ J2 fun b J3 => if b = true then te τ J3 fun y J4 => ∃ got, J4 D = some (.lst got) ∧ got.length < sizeLine ∧ Pv (i + 1) (upd J4 D (.lst (got ++ [y]))) else Pv (i + 1) J3)
    (hd : ∀ J, Pv x.cps.size J → Qd J) :=
  lc_it (walk_str (z := x)) (g := g) (tt := tt) (te := te) (vs := vs) (σ := σ) Pv h0 (fun _ _ _ _ => True.intro) (fun i v J J' _ p y => by obtain ⟨rfl, c, hc, rfl⟩ := y; exact hs i c _ hc p) hd
theorem atI_in {α : Type} {xs : List α} {i : Int} (h0 : 0 ≤ i) (h1 : i < (xs.length : Int)) : ∃ v, atI xs i = some v ∧ v ∈ xs := by
  obtain ⟨j, rfl⟩ : ∃ j : Nat, i = (j : Int) := ⟨i.toNat, by omega⟩
  have hj : j < xs.length := by omega
  exact ⟨xs[j], atI_nat (List.getElem?_eq_getElem hj), List.getElem_mem hj⟩
theorem cutS_le (z : Str) (lo hi : Option Int) : (cutS z lo hi).length ≤ z.length := by
  show (cutS z lo hi).cps.size ≤ z.cps.size
  rw [← Array.length_toList, ← Array.length_toList]
  unfold cutS
  rw [List.length_take, List.length_drop]
  omega
theorem add_len (a b : Str) : (a ++ b).length = a.length + b.length := by
  show (a.cps ++ b.cps).size = a.cps.size + b.cps.size
  exact Array.size_append
theorem join_len : ∀ ys : List Str, (Str.join Str.empty ys).length = (ys.map (·.length)).sum
  | [] => rfl
  | [x] => by
    show x.length = _
    simp
  | x :: y :: r => by
    show ((x ++ Str.empty) ++ Str.join Str.empty (y :: r)).length = _
    rw [add_len, add_len, join_len (y :: r)]
    show x.length + 0 + _ = _
    simp
theorem sum_ones {ys : List Str} (h : ∀ y ∈ ys, y.length = 1) : (ys.map (·.length)).sum = ys.length := by
  induction ys with
  | nil => rfl
  | cons a r ih =>
    rw [List.map_cons, List.sum_cons, h a (by simp), ih fun y hy => h y (by simp [hy]), List.length_cons]
    omega
/-- all signs of t are in s -/
def onlyOf (t s : Str) : Bool := t.cps.toList.all fun c => decide (c ∈ s.cps.toList)
def spOnly : Sp := fun vs H Q _ => ∃ t s : Str, vs = [.str t, .str s] ∧ t.length ≤ 1000 ∧ ∀ H', Same H H' → Q (.bl (onlyOf t s)) H'
/-- a text in, a truth out -/
def spB (g : Str → Bool) : Sp := fun vs H Q _ => ∃ t : Str, vs = [.str t] ∧ t.length ≤ 1000 ∧ ∀ H', Same H H' → Q (.bl (g t)) H'
end Ak
namespace Ak
open PySem L2
def top (i : Nat) : Stmt := PySem.Challenge.pw_askladder_k02_names_and_figures.main.body.getD i (.Pass ⟨0, 0, 0, 0⟩)
/-! ### the box of draws: _law_deal, _law_draw -/
abbrev st_l_deal : Stmt := top 8
theorem sc_l_deal : FnScope ["_law_script", "_law_base", "_law_one", "_law_some_here", "_law_number"] ["_law_script", "_law_base"] (defScope st_l_deal) := ⟨rfl, rfl, rfl, by decide +kernel, rfl, by decide +kernel, by decide +kernel⟩
abbrev st_l_draw : Stmt := top 9
theorem sc_l_draw : FnScope ["_law_deal_here", "_law_many", "_law_number", "_law_one", "_law_other"] ["_law_deal_here", "_law_many"] (defScope st_l_draw) := ⟨rfl, rfl, rfl, by decide +kernel, rfl, by decide +kernel, by decide +kernel⟩
structure BltD (mg : Str → Option Value) : Prop where
  len : mg "len" = none
  list : mg "list" = none
  reversed : mg "reversed" = none
  max : mg "max" = none
section
variable {P : Program} {w : World} {K : PySem.W.Frag} {mg : Str → Option Value} {base : Heap}
def DrawW (d l : Addr) (n : Int) (H : Hp) (m : Nat) (σ : L2.St) (H1 : Hp) : Prop :=
  σ = start ["_law_deal_here", "_law_many", "_law_number", "_law_one", "_law_other"] [.ref d, .int n] ∧ ∃ (s0 n0 : Int) (left : List Int), m = left.length ∧ 0 ≤ s0 ∧ s0 < 2147483647 ∧ 0 ≤ n0 ∧ (∀ x ∈ left, 0 ≤ x) ∧ H1 d = some (.dK (dealL s0 n0 l)) ∧ H1 l = some (.lst (left.map V.int)) ∧ Kp d l H H1
theorem ok_draw {f : Addr} {fd : FuncData} (D : Fn K mg "_law_draw" st_l_draw ["_law_deal_here", "_law_many"] f fd) (T : BltD mg) : FnOk P w K mg base CX0 1 f fd ["_law_deal_here", "_law_many"] spDraw := by
  refine D.F.ok sc_l_draw (fun vs H Q E h => ?_) (fun cdv A outer s H vs Q E hr h => ?_)
  · obtain ⟨d, l, n, rfl, _⟩ := h
    rfl
  · obtain ⟨d, l, n, rfl, hD, h1, h2, k⟩ := h
    have hu := hu_of hr
    have ndl := hD.ne
    refine ⟨_, (pss_cons (ps_while PassesOwn.never (PW.pt (pw_and (pt_cmpR op_eq (pe_dget hu (pv 0) pe_str (fun _ _ => rfl)) pe_int (nomark _)) (pw_and1 (pt_cmpR op_gt (pe_callB call_len_seq (by rfl) T.len (by decide +kernel) (pa_cons (pe_dget hu (pv 0) pe_str (fun _ _ => rfl)) pa_nil)) pe_int (nomark _))))) (pss_one (ps_dput hu (pv 0) pe_str (pe_bm0 PySem.F.plainAttrs_list PySem.F.slot_list_pop PySem.F.type_list_pop mt_pop (pe_dget hu (pv 0) pe_str (fun _ _ => rfl))) rfl)))
      (pss_cons (ps_set (i := 2) sc_l_draw.nd rfl (Or.inl rfl) (pe_dget hu (pv 0) pe_str (fun _ _ => rfl)))
      (pss_cons (ps_if (pt_cmpR op_gt (pv 2) pe_int (nomark _)) (pss_cons (ps_dput hu (pv 0) pe_str (pe_op op_fdivN (pv 2) (pv 1)) rfl)
      (pss_one (ps_ret (pe_op op_modN (pv 2) (pv 1))))) pss_nil)
      (pss_cons (ps_set (i := 3) sc_l_draw.nd rfl (Or.inl rfl) (pe_op op_modN (pe_op op_add (pe_op op_mul (pe_dget hu (pv 0) pe_str (fun _ _ => rfl)) pe_int) pe_int) pe_int))
      (pss_cons (ps_dput hu (pv 0) pe_str (pe_op op_modN (pe_op op_add (pe_op op_mul (pv 3) pe_int) pe_int) pe_int) rfl)
      (pss_cons (ps_set (i := 4) sc_l_draw.nd rfl (Or.inl rfl) (pe_op op_modN (pe_op op_mul (pe_dget hu (pv 0) pe_str (fun _ _ => rfl)) (pe_dget hu (pv 0) pe_str (fun _ _ => rfl))) pe_int))
      (pss_one (ps_ret (pe_op op_modN (pe_op op_add (pe_op op_mul (pe_op op_modN (pe_op op_mul (pv 3) (pv 3)) pe_int) pe_int) (pv 4)) (pv 1)))))))))), ?_⟩
    obtain ⟨s0, n0, left, a1, a2, a3, a4, e1, e2⟩ := hD
    refine ⟨DrawW d l n H, ⟨left.length, rfl, s0, n0, left, rfl, a1, a2, a3, a4, e1, e2, Kp.refl _ _ _⟩, ?_⟩
    clear e1 e2 a1 a2 a3 a4
    clear s0 n0 left
    rintro m σ H1 ⟨rfl, s0, n0, left, rfl, a1, a2, a3, a4, e1, e2, kp⟩
    have gs := deal_gs e1
    have gn := deal_gn e1
    have gl := deal_gl e1
    have kd : ∀ o, Kp d l H (upd H1 d o) := fun o b u e b1 b2 => by rw [upd_ne b1]; exact kp b u e b1 b2
    -- number == 0 and len(left) > 0
    refine dec_and (p := n0 = 0) (q := 0 < left.length) (dec_of fun Q' h => ?_) (fun _ => dec_of fun Q' h => ?_) _ (fun c => iteT ?_) (fun c => iteF ?_)
    · refine ⟨_, rfl, d, .int n0, rfl, gn, rfl, ?_⟩
      have e : decide (V.int n0 = V.int 0) = decide (n0 = 0) := decide_eq_decide.mpr ⟨fun z => V.int.inj z, fun z => by rw [z]⟩
      rw [e]
      exact h
    · refine ⟨_, rfl, d, .ref l, rfl, gl, l, _, rfl, .inl (SqL.of e2), _, _, rfl, rfl, ?_⟩
      have e : decide ((0 : Int) < ((left.map V.int).length : Int)) = decide (0 < left.length) := by rw [List.length_map]; exact decide_eq_decide.mpr (by omega)
      show Q' (.bl (decide ((0 : Int) < ((left.map V.int).length : Int)))) H1
      rw [e]
      exact h
    · -- number = left.pop()
      obtain ⟨c1, hl⟩ := c
      obtain ⟨ini, x, rfl⟩ : ∃ ini x, left = ini ++ [x] := ⟨left.dropLast, left.getLast (by intro z; rw [z] at hl; exact absurd hl (by decide)), (List.dropLast_concat_getLast _).symm⟩
      have hx : ((ini ++ [x]).map V.int)[((ini ++ [x]).map V.int).length - 1]? = some (.int x) := by simp
      have hdrop : ((ini ++ [x]).map V.int).dropLast = ini.map V.int := by simp
      refine ⟨fun σ' H' => ∃ m', m' < (ini ++ [x]).length ∧ DrawW d l n H m' σ' H', fun _ _ h => h, ?_⟩
      refine ⟨_, rfl, d, .ref l, rfl, gl, .inl ⟨rfl, _, SqL.of e2⟩, l, _, _, rfl, rfl, e2, hx, ?_⟩
      rw [hdrop]
      have e1' : (upd H1 l (.lst (ini.map V.int))) d = some (.dK (dealL s0 n0 l)) := by rw [upd_ne ndl]; exact e1
      refine ⟨_, rfl, d, upd (upd H1 l (.lst (ini.map V.int))) d (.dK (dealL s0 x l)), rfl, deal_pn x e1', ?_⟩
      refine ⟨ini.length, by simp, rfl, s0, x, ini, rfl, a1, a2, a4 x (by simp), fun y hy => a4 y (by simp [hy]), upd_same, by rw [upd_ne ndl.symm, upd_same], fun b o e b1 b2 => by rw [upd_ne b1, upd_ne b2]; exact kp b o e b1 b2⟩
    · -- number = ..; if number > 0
      refine ⟨_, rfl, d, .int n0, rfl, gn, ?_⟩
      refine ⟨_, rfl, _, _, rfl, rfl, _, rfl, ite2 (fun c => ?_) fun c => ?_⟩
      · have c := of_decide_eq_true c
        refine ⟨_, rfl, _, rfl, _, _, rfl, rfl, ⟨by omega, by omega⟩, _, rfl, d, _, rfl, deal_pn _ e1, ?_⟩
        refine ⟨_, rfl, _, rfl, _, _, rfl, rfl, by omega, ?_⟩
        refine k _ _ (Int.fmod_nonneg (by omega) (by omega)) (Int.fmod_lt_of_pos _ (by omega)) ⟨s0, n0.fdiv n, left, a1, a2, ?_, a4, upd_same, by rw [upd_ne ndl.symm]; exact e2⟩ (kd _)
        exact Int.fdiv_nonneg (by omega) (by omega)
      · have nz : ∀ {a : Int}, 0 < a → a ≠ 0 := fun h z => by omega
        refine ⟨_, rfl, d, .int s0, rfl, gs, _, _, rfl, rfl, .inl ⟨by omega, by omega⟩, _, _, rfl, rfl, _, _, rfl, rfl, nz (by decide), ?_⟩
        have o1a := Int.fmod_nonneg_of_pos (s0 * 48271 + 7919) (show (0 : Int) < 2147483647 by decide)
        have o1b := Int.fmod_lt_of_pos (s0 * 48271 + 7919) (show (0 : Int) < 2147483647 by decide)
        have s1a := Int.fmod_nonneg_of_pos ((s0 * 48271 + 7919).fmod 2147483647 * 40692 + 104729) (show (0 : Int) < 2147483399 by decide)
        have s1b := Int.fmod_lt_of_pos ((s0 * 48271 + 7919).fmod 2147483647 * 40692 + 104729) (show (0 : Int) < 2147483399 by decide)
        refine ⟨_, rfl, _, _, rfl, rfl, .inl ⟨by omega, by omega⟩, _, _, rfl, rfl, _, _, rfl, rfl, nz (by decide), ?_⟩
        refine ⟨_, rfl, d, _, rfl, deal_ps _ e1, ?_⟩
        have e1' : (upd H1 d (.dK (dealL (((s0 * 48271 + 7919).fmod 2147483647 * 40692 + 104729).fmod 2147483399) n0 l))) d = some (.dK (dealL (((s0 * 48271 + 7919).fmod 2147483647 * 40692 + 104729).fmod 2147483399) n0 l)) := upd_same
        refine ⟨_, rfl, d, _, rfl, deal_gs e1', _, rfl, d, _, rfl, deal_gs e1', _, _, rfl, rfl, .inl ⟨by omega, by omega⟩, _, _, rfl, rfl, nz (by decide), ?_⟩
        have q1 := Int.fmod_nonneg_of_pos ((s0 * 48271 + 7919).fmod 2147483647 * (s0 * 48271 + 7919).fmod 2147483647) (show (0 : Int) < 2147483629 by decide)
        have q2 := Int.fmod_lt_of_pos ((s0 * 48271 + 7919).fmod 2147483647 * (s0 * 48271 + 7919).fmod 2147483647) (show (0 : Int) < 2147483629 by decide)
        refine ⟨_, rfl, _, rfl, _, _, rfl, rfl, .inl ⟨by omega, by omega⟩, _, _, rfl, rfl, nz (by decide), ?_⟩
        refine ⟨_, _, rfl, rfl, .inl ⟨by omega, by omega⟩, _, rfl, _, _, rfl, rfl, _, rfl, _, _, rfl, rfl, nz (by omega), ?_⟩
        exact k _ _ (Int.fmod_nonneg_of_pos _ (by omega)) (Int.fmod_lt_of_pos _ (by omega)) ⟨_, n0, left, s1a, by omega, a3, a4, upd_same, by rw [upd_ne ndl.symm]; exact e2⟩ (kd _)
end
section
variable {P : Program} {w : World} {K : PySem.W.Frag} {mg : Str → Option Value} {base : Heap}
theorem ok_deal {f : Addr} {fd : FuncData} (D : Fn K mg "_law_deal" st_l_deal ["_law_script", "_law_base"] f fd) (T : BltD mg) : FnOk P w K mg base CX0 1 f fd ["_law_script", "_law_base"] (spDeal K) := by
  refine D.F.ok sc_l_deal (fun vs H Q E h => ?_) (fun cdv A outer s H vs Q E hr h => ?_)
  · obtain ⟨a, ns, b, rfl, _⟩ := h
    rfl
  · obtain ⟨a, ns, b, rfl, hS, hn, b0, b1, k⟩ := h
    have hu := hu_of hr
    have nz : ∀ {a : Int}, 0 < a → a ≠ 0 := fun h z => by omega
    refine ⟨_, (pss_cons (ps_setLc (i := 3) (own := [("_law_one", 2)]) (g := gName 2) (tt := tYes) rfl sc_l_deal.nd rfl rfl (sw_true rfl rfl rfl (by decide +kernel)) (pi_list (pe_slice sl_list (pv 0) (po_some (pv 1)) (po_some pe_int))) (blkOk_by (own := [("_law_one", 2)]) (N := ["_law_script", "_law_base", "_law_one", "_law_some_here", "_law_number"]) (sc := defScope st_l_deal) (by decide +kernel)) (fun _ _ _ _ _ => (pg_name (i := 2) sc_l_deal.nd rfl (Or.inl rfl))) (fun _ _ _ _ _ => pts_nil) (fun _ _ _ _ _ => (pe_callB (call_max2 rfl) (by rfl) T.max (by decide +kernel) (pa_cons (pv 2) (pa_cons (pe_op op_sub pe_int (pv 2)) pa_nil)))))
      (pss_cons (ps_set (i := 4) sc_l_deal.nd rfl (Or.inl rfl) (pe_op op_add pe_int (pv 1)))
      (pss_cons (ps_for PassesOwn.never rfl (pi_list (pv 3)) (pg_name (i := 2) sc_l_deal.nd rfl (Or.inl rfl)) (pss_one (ps_set (i := 4) sc_l_deal.nd rfl (Or.inl rfl) (pe_op op_modN (pe_op op_add (pe_op op_mul (pv 4) pe_int) (pe_op op_modN (pv 2) pe_int)) pe_int))))
      (pss_one (ps_ret (pe_disp (pps_cons pe_str (pv 4) (pps_cons pe_str pe_int (pps_cons pe_str (Ak.pe_lstRev rfl rfl T.list rfl T.reversed (pe_lc (own := [("_law_one", 2)]) (g := gName 2) (tt := _) rfl sc_l_deal.nd (pi_list (pv 3)) (blkOk_by (own := [("_law_one", 2)]) (N := ["_law_script", "_law_base", "_law_one", "_law_some_here", "_law_number"]) (sc := defScope st_l_deal) (by decide +kernel)) (fun _ _ _ _ _ => (pg_name (i := 2) sc_l_deal.nd rfl (Or.inl rfl))) (fun _ _ _ _ _ => (pts_one (pt_cmpR op_ge (pv 2) (pe_op op_pow pe_int pe_int) (nomark _)))) (fun _ _ _ _ _ => (pv 2)))) pps_nil))) (by rfl) (by rfl) (fun z => by cases z) (by decide))))))), ?_⟩
    obtain ⟨cs, hcs, hcl⟩ : ∃ cs : List Int, cutV (ns.map V.int) (some b) (some 63) = cs.map V.int ∧ cs.length ≤ ns.length := by
      refine ⟨(ns.drop (HT.sIx (ns.map V.int).length 0 (some b))).take (HT.sIx (ns.map V.int).length (ns.map V.int).length (some 63) - HT.sIx (ns.map V.int).length 0 (some b)), ?_, ?_⟩
      · unfold cutV
        rw [List.map_take, List.map_drop]
      · rw [List.length_take, List.length_drop]; omega
    refine ⟨_, rfl, _, rfl, b, rfl, 63, rfl, a, _, rfl, hS, fun p np => ⟨p, rfl, ⟨_, SqL.of upd_same⟩, fun L hL => ?_⟩⟩
    rw [hcs] at hL ⊢
    have nLp : L ≠ p := by intro z; rw [z, upd_same] at hL; cases hL
    have nL : H L = none := by rw [upd_ne nLp] at hL; exact hL
    have hp1 : (upd H p (.lst (cs.map V.int))) p = some (.lst (cs.map V.int)) := upd_same
    refine lc_list (K := K) (a := p) (xs := cs.map V.int) (fun i H' => Same H H' ∧ H' p = some (.lst (cs.map V.int)) ∧ H' L = some (.lst ((cs.take i).map fun x => V.int (ab x)))) ⟨?_, ?_, ?_⟩ (fun i H' _ q => SqL.of q.2.1) (fun i x H' hx q => ?_) fun H' q => ?_
    · exact (Same.new np).trans (Same.new hL)
    · rw [upd_ne nLp.symm]; exact hp1
    · rw [upd_same]; rfl
    · obtain ⟨z, hz, rfl⟩ : ∃ z, cs[i]? = some z ∧ x = V.int z := by
        rw [List.getElem?_map] at hx
        cases h : cs[i]? with
        | none => rw [h] at hx; cases hx
        | some z => rw [h] at hx; exact ⟨z, rfl, (Option.some.inj hx).symm⟩
      obtain ⟨q1, q2, q3⟩ := q
      have hi : i < cs.length := (List.getElem?_eq_some_iff.mp hz).1
      refine ⟨rfl, lc_yes ?_⟩
      refine ⟨_, rfl, _, rfl, _, _, rfl, rfl, _, _, rfl, _, q3, small1000 (by simp; omega), ?_, ?_, ?_⟩
      · intro c o e
        rw [upd_ne (ne_of_none e nL)]; exact q1 c o e
      · rw [upd_ne nLp.symm]; exact q2
      · rw [upd_same]
        have e : cs.take (i + 1) = cs.take i ++ [z] := by rw [List.take_succ, hz]; rfl
        rw [e, List.map_append]
        rfl
    · rw [List.length_map, List.take_length] at q
      obtain ⟨q1, q2, q3⟩ := q
      -- number = 7919 + base
      refine ⟨_, rfl, _, _, rfl, rfl, ?_⟩
      -- for one in some_here
      refine ⟨_, rfl, L, rfl, ⟨_, SqL.of q3⟩, for_list (xs := cs.map fun x => V.int (ab x)) (fun i σ H1 => H1 = H' ∧ ∃ (v2 : Option V) (num : Int), σ = [some (.ref a), some (.int b), v2, some (.ref L), some (.int num)] ∧ 0 ≤ num ∧ num < 2147483647) ⟨rfl, _, _, rfl, by omega, by omega⟩ (fun i σ H1 _ r => by rw [r.1]; exact SqL.of q3) (fun i x σ H1 hx r => ?_) fun σ H1 r => ?_⟩
      · obtain ⟨rfl, v2, num, rfl, n1, n2⟩ := r
        obtain ⟨z, rfl⟩ : ∃ z, x = V.int z := by
          rw [List.getElem?_map] at hx
          cases h : cs[i]? with
          | none => rw [h] at hx; cases hx
          | some z => rw [h] at hx; exact ⟨_, (Option.some.inj hx).symm⟩
        refine ⟨_, rfl, _, _, rfl, rfl, .inl ⟨by omega, by omega⟩, _, rfl, _, _, rfl, rfl, nz (by decide), _, _, rfl, rfl, _, _, rfl, rfl, nz (by decide), ?_⟩
        exact ⟨rfl, _, _, rfl, Int.fmod_nonneg_of_pos _ (by decide), Int.fmod_lt_of_pos _ (by decide)⟩
      · obtain ⟨rfl, v2, num, rfl, n1, n2⟩ := r
        -- the dict
        intro d hd
        refine ⟨_, rfl, ?_⟩
        have ndL : L ≠ d := ne_of_none q3 hd
        refine ⟨_, rfl, L, rfl, ⟨_, SqL.of (by rw [upd_ne ndL]; exact q3)⟩, fun M hM => ?_⟩
        have nMd : M ≠ d := by intro z; rw [z, upd_same] at hM; cases hM
        have nM : H1 M = none := by rw [upd_ne nMd] at hM; exact hM
        refine lc_list (K := K) (a := L) (xs := cs.map fun x => V.int (ab x)) (fun i H2 => Same H1 H2 ∧ H2 d = some (.dK []) ∧ ∃ sel : List Int, H2 M = some (.lst (sel.map V.int)) ∧ sel.length ≤ i ∧ ∀ x ∈ sel, 0 ≤ x) ⟨?_, ?_, ?_⟩ (fun i H2 _ r => SqL.of (r.1 _ _ q3)) (fun i x H2 hx r => ?_) fun H2 r => ?_
        · exact (Same.new hd).trans (Same.new hM)
        · rw [upd_ne nMd.symm, upd_same]
        · exact ⟨[], by rw [upd_same]; rfl, Nat.le_refl _, fun _ z => nomatch z⟩
        · obtain ⟨z, hz, rfl⟩ : ∃ z, cs[i]? = some z ∧ x = V.int (ab z) := by
            rw [List.getElem?_map] at hx
            cases h : cs[i]? with
            | none => rw [h] at hx; cases hx
            | some z => rw [h] at hx; exact ⟨z, rfl, (Option.some.inj hx).symm⟩
          obtain ⟨r1, r2, sel, r3, r4, r5⟩ := r
          have hi : i < cs.length := (List.getElem?_eq_some_iff.mp hz).1
          refine ⟨rfl, _, rfl, _, _, rfl, rfl, ⟨by decide, by decide, by decide⟩, _, _, rfl, rfl, _, rfl, ite2 (fun c => ?_) fun c => ?_⟩
          · refine ⟨_, rfl, _, r3, small1000 (by simp; omega), ?_, ?_, sel ++ [ab z], ?_, by simp; omega, ?_⟩
            · intro c o e
              rw [upd_ne (ne_of_none e nM)]; exact r1 c o e
            · rw [upd_ne nMd.symm]; exact r2
            · rw [upd_same, List.map_append]; rfl
            · intro y hy
              rcases List.mem_append.mp hy with hy | hy
              · exact r5 y hy
              · rw [List.mem_singleton.mp hy]; exact ab_nonneg z
          · exact ⟨r1, r2, sel, r3, by omega, r5⟩
        · obtain ⟨r1, r2, sel, r3, r4, r5⟩ := r
          refine ⟨M, _, rfl, SqL.of r3, fun q hq => ?_⟩
          have nqd : q ≠ d := by intro z; rw [z, r2] at hq; cases hq
          refine ⟨by rw [upd_ne nqd.symm]; exact r2, dealL num 0 q, rfl, (by show 3 ≤ 15; decide), ?_⟩
          have em : mergeK ([] : List (Key × V)) (dealL num 0 q) = dealL num 0 q := deal_merge num 0 q
          rw [em, ← List.map_reverse]
          refine k d q _ (q1.free hd) ((q1.trans r1).free hq) ⟨num, 0, sel.reverse, n1, n2, by decide, fun x hx => r5 x (List.mem_reverse.mp hx), upd_same, by rw [upd_ne nqd, upd_same]⟩ ?_
          intro c o e
          rw [upd_ne (ne_of_none (q1 _ _ e) hd), upd_ne (ne_of_none (r1 _ _ (q1 _ _ e)) hq)]
          exact r1 _ _ (q1 _ _ e)
end
/-! ### names and figures -/
abbrev st_only_of : Stmt := top 4
theorem sc_only_of : FnScope ["text", "signs", "sign"] ["text", "signs"] (defScope st_only_of) := ⟨rfl, rfl, rfl, by decide +kernel, rfl, by decide +kernel, by decide +kernel⟩
abbrev st_is_name : Stmt := top 5
theorem sc_is_name : FnScope ["text"] ["text"] (defScope st_is_name) := ⟨rfl, rfl, rfl, by decide +kernel, rfl, by decide +kernel, by decide +kernel⟩
abbrev st_is_figures : Stmt := top 6
theorem sc_is_figures : FnScope ["text"] ["text"] (defScope st_is_figures) := ⟨rfl, rfl, rfl, by decide +kernel, rfl, by decide +kernel, by decide +kernel⟩
abbrev st_l_kept : Stmt := top 10
theorem sc_l_kept : FnScope ["_law_found"] [] (defScope st_l_kept) := ⟨rfl, rfl, rfl, by decide +kernel, rfl, by decide +kernel, by decide +kernel⟩
abbrev st_l_some : Stmt := top 11
theorem sc_l_some : FnScope ["_law_deal_here", "_law_way", "_law_letters", "_law_word", "_law_more", "_law_signs", "_law_text", "_law_at", "_law_others", "_law_k"] ["_law_deal_here"] (defScope st_l_some) := ⟨rfl, rfl, rfl, by decide +kernel, rfl, by decide +kernel, by decide +kernel⟩
abbrev st_l_is_name : Stmt := top 12
theorem sc_l_is_name : FnScope ["_law_text", "_law_sign"] ["_law_text"] (defScope st_l_is_name) := ⟨rfl, rfl, rfl, by decide +kernel, rfl, by decide +kernel, by decide +kernel⟩
abbrev st_l_is_number : Stmt := top 13
theorem sc_l_is_number : FnScope ["_law_text", "_law_sign"] ["_law_text"] (defScope st_l_is_number) := ⟨rfl, rfl, rfl, by decide +kernel, rfl, by decide +kernel, by decide +kernel⟩
abbrev st_l_right : Stmt := top 14
theorem sc_l_right : FnScope ["_law_text", "_law_good", "_law_number"] ["_law_text"] (defScope st_l_right) := ⟨rfl, rfl, rfl, by decide +kernel, rfl, by decide +kernel, by decide +kernel⟩
abbrev st_law : Stmt := top 15
theorem sc_law : FnScope ["_law_script", "_law_deal_here", "_law_texts", "_law_k", "_law_text"] ["_law_script"] (defScope st_law) := ⟨rfl, rfl, rfl, by decide +kernel, rfl, by decide +kernel, by decide +kernel⟩
def lets : Str := "abcdefghijklmnopqrstuvwxyz"
def figs : Str := "0123456789"
def NNs : List Str := ["ask", "keeper", "def", "to", "note", "takes", "gives", "hears", "let", "be", "call", "keep", "go", "give", "tell", "if", "else", "case", "none", "more", "end", "empty", "put", "last", "num", "nums", "hold", "holds"]
structure Blt (K : PySem.W.Frag) (mg : Str → Option Value) (aN : Addr) (t1 t2 : Tok) : Prop where
  len : mg "len" = none
  all : mg "all" = none
  int : mg "int" = none
  bool : mg "bool" = none
  range : mg "range" = none
  isinstance : mg "isinstance" = none
  c_LETTERS : mg "LETTERS" = some (.str lets t1)
  c_FIGURES : mg "FIGURES" = some (.str figs t2)
  c_NO_NAMES : mg "NO_NAMES" = some (.ref aN)
  NN : ∀ H, SqT K H aN (NNs.map V.str)
def isName (t : Str) : Bool := (decide (1 ≤ t.length) && decide (t.length ≤ 8)) && (onlyOf t lets && !inV (.str t) (NNs.map V.str))
def isFigs (t : Str) : Bool := (decide (1 ≤ t.length) && decide (t.length ≤ 9)) && (onlyOf t figs && (decide (V.str t = .str "0") || !decide (V.str ⟨#[t.cps[0]?.getD 0]⟩ = .str "0")))
theorem len_sz {t : Str} (h : t.length ≤ 1000) : t.length ≤ sizeLine := Nat.le_of_lt (small1000 h)
theorem nn_flat : (NNs.map V.str).all flatV = true := by decide +kernel
section
variable {P : Program} {w : World} {K : PySem.W.Frag} {mg : Str → Option Value} {base : Heap} {aN : Addr} {t1 t2 : Tok}
theorem ok_only_of {f : Addr} {fd : FuncData} (D : Fn K mg "only_of" st_only_of ["text", "signs"] f fd) (T : Blt K mg aN t1 t2) : FnOk P w K mg base CX0 1 f fd ["text", "signs"] spOnly := by
  refine D.F.ok sc_only_of (fun vs H Q E h => ?_) (fun cdv A outer s H vs Q E hr h => ?_)
  · obtain ⟨a, b, rfl, _⟩ := h
    rfl
  · obtain ⟨t, u, rfl, hl, k⟩ := h
    refine ⟨_, (pss_one (ps_ret (pe_callB (cr_all rfl) (by rfl) T.all (by decide +kernel) (pa_cons (pe_lc (own := [("sign", 2)]) (g := gName 2) (tt := tYes) rfl sc_only_of.nd (pi_str (pv 0)) (blkOk_by (own := [("sign", 2)]) (N := ["text", "signs", "sign"]) (sc := defScope st_only_of) (by decide +kernel)) (fun _ _ _ _ _ => (pg_name (i := 2) sc_only_of.nd rfl (Or.inl rfl))) (fun _ _ _ _ _ => pts_nil) (fun _ _ _ _ _ => (pe_cmpR op_in_sign (pv 2) (pv 1) (by rfl)))) pa_nil)))), ?_⟩
    refine ⟨_, rfl, t, rfl, fun L hL => lc_sign (x := t) (fun i H' => Same H H' ∧ H' L = some (.lst (((t.cps.toList.take i).map fun c => decide (c ∈ u.cps.toList)).map V.bl))) ⟨Same.new hL, by rw [upd_same]; rfl⟩ (fun i c H' hc q => ?_) fun H' q => ?_⟩
    · obtain ⟨q1, q2⟩ := q
      have hi : i < t.cps.size := (Array.getElem?_eq_some_iff.mp hc).1
      have hsz : t.cps.size = t.length := rfl
      refine ⟨rfl, lc_yes ?_⟩
      refine ⟨_, rfl, _, rfl, c, u, rfl, rfl, _, q2, small1000 (by simp; omega), ?_, ?_⟩
      · intro b o e
        rw [upd_ne (ne_of_none e hL)]
        exact q1 b o e
      · rw [upd_same]
        have hc' : t.cps.toList[i]? = some c := by rw [Array.getElem?_toList]; exact hc
        have e : t.cps.toList.take (i + 1) = t.cps.toList.take i ++ [c] := by rw [List.take_add_one, hc']; rfl
        rw [e, List.map_append, List.map_append]
        rfl
    · obtain ⟨q1, q2⟩ := q
      have e : t.cps.toList.take t.cps.size = t.cps.toList := List.take_of_length_le (by simp)
      rw [e] at q2
      refine ⟨L, _, rfl, SqL.of q2, ?_⟩
      have e2 : ((t.cps.toList.map fun c => decide (c ∈ u.cps.toList)).all id) = onlyOf t u := by unfold onlyOf; rw [List.all_map]; rfl
      rw [e2]
      exact k _ q1
theorem ok_is_name {f fo : Addr} {fd fdo : FuncData} (D : Fn K mg "is_name" st_is_name ["text"] f fd) (T : Blt K mg aN t1 t2) (D_only_of : Fn K mg "only_of" st_only_of ["text", "signs"] fo fdo) : FnOk P w K mg base CX0 2 f fd ["text"] (spB isName) := by
  have G_only_of : FnOk P w K mg base CX0 1 fo fdo _ spOnly := ok_only_of D_only_of T
  refine D.F.ok sc_is_name (fun vs H Q E h => ?_) (fun cdv A outer s H vs Q E hr h => ?_)
  · obtain ⟨a, rfl, _⟩ := h
    rfl
  · obtain ⟨t, rfl, hl, k⟩ := h
    have hs := len_sz hl
    refine ⟨_, (pss_one (ps_ret (pe_and (pe_chain op_le op_le pe_int (pe_callB call_len_str (by rfl) T.len (by decide +kernel) (pa_cons (pv 0) pa_nil)) pe_int) (pe_and (pe_call G_only_of (hr.mono (by decide)) rfl D_only_of.mg D_only_of.kp D_only_of.b .nil pass0 (pa_cons (pv 0) (pa_cons (pe_glob (v := .str lets) rfl T.c_LETTERS ⟨_, rfl⟩) pa_nil))) (pe_one (pe_cmpR op_notIn_seq (pv 0) (pe_glob (v := .ref aN) rfl T.c_NO_NAMES rfl) (by rfl))))))), ?_⟩
    unfold isName at k
    refine ⟨_, rfl, t, rfl, hs, _, _, rfl, rfl, _, rfl, ite2 (fun c1 => ?_) fun c1 => ?_⟩
    · have d1 : decide (1 ≤ t.length) = true := decide_eq_true (by have := of_decide_eq_true c1; omega)
      rw [d1] at k
      refine ⟨_, _, rfl, rfl, _, rfl, ite2 (fun c2 => ?_) fun c2 => ?_⟩
      · have d2 : decide (t.length ≤ 8) = true := decide_eq_true (by have := of_decide_eq_true c2; omega)
        rw [d2] at k
        refine ⟨_, rfl, ?_⟩
        refine ⟨t, lets, rfl, hl, fun H1 s1 => ⟨_, rfl, ite2 (fun c3 => ?_) fun c3 => ?_⟩⟩
        · rw [c3] at k
          refine ⟨_, rfl, aN, NNs.map V.str, rfl, .inr (T.NN _), rfl, nn_flat, ?_⟩
          exact k _ s1
        · rw [Bool.not_eq_true] at c3
          rw [c3] at k
          exact k _ s1
      · have d2 : decide (t.length ≤ 8) = false := decide_eq_false (fun z => c2 (decide_eq_true (by omega)))
        rw [d2] at k
        exact k _ (Same.refl H)
    · have d1 : decide (1 ≤ t.length) = false := decide_eq_false (fun z => c1 (decide_eq_true (by omega)))
      rw [d1] at k
      refine ⟨_, rfl, iteF ?_⟩
      exact k _ (Same.refl H)
end
section
variable {P : Program} {w : World} {K : PySem.W.Frag} {mg : Str → Option Value} {base : Heap} {aN : Addr} {t1 t2 : Tok}
theorem ok_is_figures {f fo : Addr} {fd fdo : FuncData} (D : Fn K mg "is_figures" st_is_figures ["text"] f fd) (T : Blt K mg aN t1 t2) (D_only_of : Fn K mg "only_of" st_only_of ["text", "signs"] fo fdo) : FnOk P w K mg base CX0 2 f fd ["text"] (spB isFigs) := by
  have G_only_of : FnOk P w K mg base CX0 1 fo fdo _ spOnly := ok_only_of D_only_of T
  refine D.F.ok sc_is_figures (fun vs H Q E h => ?_) (fun cdv A outer s H vs Q E hr h => ?_)
  · obtain ⟨a, rfl, _⟩ := h
    rfl
  · obtain ⟨t, rfl, hl, k⟩ := h
    have hs := len_sz hl
    refine ⟨_, (pss_cons (ps_if (PW.pt (pw_or (pt_not (pt_chain op_le op_le pe_int (pe_callB call_len_str (by rfl) T.len (by decide +kernel) (pa_cons (pv 0) pa_nil)) pe_int)) (pw_or1 (pt_not (pt_val (pe_call G_only_of (hr.mono (by decide)) rfl D_only_of.mg D_only_of.kp D_only_of.b .nil pass0 (pa_cons (pv 0) (pa_cons (pe_glob (v := .str figs) rfl T.c_FIGURES ⟨_, rfl⟩) pa_nil)))))))) (pss_one (ps_ret pe_bl)) pss_nil)
      (pss_one (ps_ret (pe_or (pe_cmpR op_eq (pv 0) pe_str (nomark _)) (pe_one (pe_cmpR op_ne (pe_ix ix_str (pv 0) pe_int (fun _ _ => rfl)) pe_str (nomark _))))))), ?_⟩
    unfold isFigs at k
    refine ⟨_, rfl, t, rfl, hs, _, _, rfl, rfl, _, rfl, ite2 (fun c1 => ?_) fun c1 => ?_⟩
    · have d1 : decide (1 ≤ t.length) = true := decide_eq_true (by have := of_decide_eq_true c1; omega)
      rw [d1] at k
      refine ⟨_, _, rfl, rfl, _, rfl, ?_⟩
      by_cases c2 : t.length ≤ 9
      · have d2 : decide (t.length ≤ 9) = true := decide_eq_true c2
        have d2' : decide ((t.length : Int) ≤ 9) = true := decide_eq_true (by omega)
        rw [d2] at k
        rw [d2']
        refine iteF ?_
        refine ⟨_, rfl, t, figs, rfl, hl, fun H1 s1 => ⟨_, rfl, ?_⟩⟩
        cases c3 : onlyOf t figs with
        | false =>
          rw [c3] at k
          exact k _ s1
        | true =>
          rw [c3] at k
          have hsz : 0 < t.cps.size := by have := of_decide_eq_true d1; exact this
          have h0 : t.cps[0]? = some t.cps[0] := Array.getElem?_eq_getElem hsz
          have h0' : t.cps.toList[0]? = some t.cps[0] := by rw [Array.getElem?_toList]; exact h0
          rw [h0] at k
          refine ⟨_, rfl, rfl, _, rfl, ite2 (fun c4 => ?_) fun c4 => ?_⟩
          · rw [c4] at k
            exact k _ s1
          · rw [Bool.not_eq_true] at c4
            rw [c4] at k
            refine ⟨_, rfl, t, 0, _, rfl, rfl, hs, atI_nat (j := 0) h0', rfl, ?_⟩
            exact k _ s1
      · have d2 : decide (t.length ≤ 9) = false := decide_eq_false c2
        have d2' : decide ((t.length : Int) ≤ 9) = false := decide_eq_false (by omega)
        rw [d2] at k
        rw [d2']
        exact iteT (k _ (Same.refl H))
    · have d1 : decide (1 ≤ t.length) = false := decide_eq_false (fun z => c1 (decide_eq_true (by omega)))
      rw [d1] at k
      exact ⟨_, rfl, iteT (k _ (Same.refl H))⟩
def spKept : Sp := fun vs H Q _ => vs = [] ∧ ∀ p H', H p = none → H' p = some (.lst (NNs.map V.str)) → Same H H' → Q (.ref p) H'
theorem ok_kept {f : Addr} {fd : FuncData} (D : Fn K mg "_law_kept" st_l_kept [] f fd) : FnOk P w K mg base CX0 1 f fd [] spKept := by
  refine D.F.ok sc_l_kept (fun vs H Q E h => ?_) (fun cdv A outer s H vs Q E hr h => ?_)
  · obtain ⟨rfl, _⟩ := h
    rfl
  · obtain ⟨rfl, k⟩ := h
    refine ⟨_, (pss_cons (ps_set (i := 0) sc_l_kept.nd rfl (Or.inl rfl) (pe_lst (pa_cons pe_str (pa_cons pe_str (pa_cons pe_str (pa_cons pe_str (pa_cons pe_str (pa_cons pe_str (pa_cons pe_str (pa_cons pe_str (pa_cons pe_str (pa_cons pe_str (pa_cons pe_str (pa_cons pe_str (pa_cons pe_str (pa_cons pe_str pa_nil))))))))))))))))
      (pss_cons (ps_set (i := 0) sc_l_kept.nd rfl (Or.inl rfl) (pe_op op_cat (pv 0) (pe_lst (pa_cons pe_str (pa_cons pe_str (pa_cons pe_str (pa_cons pe_str (pa_cons pe_str (pa_cons pe_str (pa_cons pe_str (pa_cons pe_str (pa_cons pe_str (pa_cons pe_str (pa_cons pe_str (pa_cons pe_str (pa_cons pe_str pa_nil))))))))))))))))
      (pss_one (ps_ret (pe_op op_cat (pv 0) (pe_lst (pa_cons pe_str pa_nil))))))), ?_⟩
    refine ⟨by show 14 ≤ sizeLine; decide, fun p hp => ?_⟩
    refine ⟨_, rfl, by show 13 ≤ sizeLine; decide, fun q hq => ?_⟩
    have npq : p ≠ q := by intro z; rw [← z, upd_same] at hq; cases hq
    have nq : H q = none := by rw [upd_ne npq.symm] at hq; exact hq
    refine ⟨p, q, _, _, rfl, rfl, by rw [upd_ne npq]; exact upd_same, upd_same, by show 27 ≤ sizeLine; decide, fun r hr => ?_⟩
    have nrq : r ≠ q := by intro z; rw [z, upd_same] at hr; cases hr
    have hr1 : (upd H p (.lst [])) r = none ∨ r = p := by
      by_cases z : r = p
      · exact .inr z
      · left; rw [upd_ne nrq, upd_ne z] at hr; rw [upd_ne z]; exact hr
    have nrp : r ≠ p := by intro z; rw [z, upd_ne npq, upd_same] at hr; cases hr
    have nr : H r = none := by rw [upd_ne nrq, upd_ne nrp] at hr; exact hr
    refine ⟨_, rfl, by show 1 ≤ sizeLine; decide, fun u hu => ?_⟩
    have nur : u ≠ r := by intro z; rw [z, upd_same] at hu; cases hu
    have nuq : u ≠ q := by intro z; rw [z, upd_ne nrq.symm, upd_same] at hu; cases hu
    have nup : u ≠ p := by intro z; rw [z, upd_ne nrp.symm, upd_ne npq, upd_same] at hu; cases hu
    have nu : H u = none := by rw [upd_ne nur, upd_ne nuq, upd_ne nup] at hu; exact hu
    refine ⟨r, u, _, _, rfl, rfl, by rw [upd_ne nur.symm]; exact upd_same, upd_same, by show 28 ≤ sizeLine; decide, fun v hv => ?_⟩
    have nvu : v ≠ u := by intro z; rw [z, upd_same] at hv; cases hv
    have nvr : v ≠ r := by intro z; rw [z, upd_ne nur.symm, upd_same] at hv; cases hv
    have nvq : v ≠ q := by intro z; rw [z, upd_ne nuq.symm, upd_ne nrq.symm, upd_same] at hv; cases hv
    have nvp : v ≠ p := by intro z; rw [z, upd_ne nup.symm, upd_ne nrp.symm, upd_ne npq, upd_same] at hv; cases hv
    have nv : H v = none := by rw [upd_ne nvu, upd_ne nvr, upd_ne nvq, upd_ne nvp] at hv; exact hv
    refine k v _ nv upd_same fun b o e => ?_
    rw [upd_ne (ne_of_none e nv), upd_ne (ne_of_none e nu), upd_ne (ne_of_none e nr), upd_ne (ne_of_none e nq), upd_ne (ne_of_none e hp)]
    exact e
theorem ok_l_is_name {f fk : Addr} {fd fdk : FuncData} (D : Fn K mg "_law_is_name" st_l_is_name ["_law_text"] f fd) (T : Blt K mg aN t1 t2) (D_l_kept : Fn K mg "_law_kept" st_l_kept [] fk fdk) : FnOk P w K mg base CX0 2 f fd ["_law_text"] (spB isName) := by
  have G_l_kept : FnOk P w K mg base CX0 1 fk fdk [] spKept := ok_kept D_l_kept
  refine D.F.ok sc_l_is_name (fun vs H Q E h => ?_) (fun cdv A outer s H vs Q E hr h => ?_)
  · obtain ⟨a, rfl, _⟩ := h
    rfl
  · obtain ⟨t, rfl, hl, k⟩ := h
    have hs := len_sz hl
    refine ⟨_, (pss_cons (ps_for PassesOwn.never rfl (pi_str (pv 0)) (pg_name (i := 1) sc_l_is_name.nd rfl (Or.inl rfl)) (pss_one (ps_if (pt_cmpR op_notIn_sign (pv 1) pe_str (by rfl)) (pss_one (ps_ret pe_bl)) pss_nil)))
      (pss_one (ps_ret (pe_and (pe_chain op_lt op_lt pe_int (pe_callB call_len_str (by rfl) T.len (by decide +kernel) (pa_cons (pv 0) pa_nil)) pe_int) (pe_one (pe_cmpR op_notIn_seq (pv 0) (pe_call0 G_l_kept (hr.mono (by decide)) rfl D_l_kept.mg D_l_kept.kp D_l_kept.b .nil pass0) (by rfl))))))), ?_⟩
    refine ⟨_, rfl, t, rfl, for_sign (x := t) (fun i σ H' => H' = H ∧ (∃ v, σ = [some (.str t), v]) ∧ ∀ c ∈ t.cps.toList.take i, c ∈ lets.cps.toList) ⟨rfl, ⟨_, rfl⟩, fun _ z => nomatch z⟩ (fun i c σ H' hc q => ?_) fun σ H' q => ?_⟩
    · obtain ⟨rfl, ⟨v, rfl⟩, q⟩ := q
      have hc' : t.cps.toList[i]? = some c := by rw [Array.getElem?_toList]; exact hc
      refine ⟨_, rfl, c, lets, rfl, rfl, _, rfl, ite2 (fun c1 => ?_) fun c1 => ?_⟩
      · have e : isName t = false := by
          have hn : ¬ c ∈ lets.cps.toList := by simpa using c1
          have e1 : onlyOf t lets = false := by
            unfold onlyOf
            rw [List.all_eq_false]
            exact ⟨c, List.mem_of_getElem? hc', by simpa using hn⟩
          unfold isName
          rw [e1, Bool.false_and, Bool.and_false]
        rw [e] at k
        exact k _ (Same.refl _)
      · have hn : c ∈ lets.cps.toList := by simpa using c1
        refine ⟨rfl, ⟨_, rfl⟩, fun x hx => ?_⟩
        have e : t.cps.toList.take (i + 1) = t.cps.toList.take i ++ [c] := by rw [List.take_add_one, hc']; rfl
        rw [e] at hx
        rcases List.mem_append.mp hx with hx | hx
        · exact q x hx
        · rw [List.mem_singleton.mp hx]; exact hn
    · obtain ⟨rfl, ⟨v, rfl⟩, q⟩ := q
      have e1 : onlyOf t lets = true := by
        unfold onlyOf
        rw [List.all_eq_true]
        intro x hx
        rw [List.take_of_length_le (by simp)] at q
        exact decide_eq_true (q x hx)
      unfold isName at k
      rw [e1] at k
      refine ⟨_, rfl, t, rfl, hs, _, _, rfl, rfl, _, rfl, ite2 (fun c1 => ?_) fun c1 => ?_⟩
      · have d1 : decide (1 ≤ t.length) = true := decide_eq_true (by have := of_decide_eq_true c1; omega)
        rw [d1] at k
        refine ⟨_, _, rfl, rfl, _, rfl, ite2 (fun c2 => ?_) fun c2 => ?_⟩
        · have d2 : decide (t.length ≤ 8) = true := decide_eq_true (by have := of_decide_eq_true c2; omega)
          rw [d2] at k
          refine ⟨_, rfl, rfl, fun p H1 hp h1 s1 => ⟨p, NNs.map V.str, rfl, .inl (SqL.of h1), rfl, nn_flat, ?_⟩⟩
          exact k _ s1
        · have d2 : decide (t.length ≤ 8) = false := decide_eq_false (fun z => c2 (decide_eq_true (by omega)))
          rw [d2] at k
          exact k _ (Same.refl _)
      · have d1 : decide (1 ≤ t.length) = false := decide_eq_false (fun z => c1 (decide_eq_true (by omega)))
        rw [d1] at k
        refine ⟨_, rfl, iteF ?_⟩
        exact k _ (Same.refl _)
end
/-- the two readings of figures agree on a text of figures -/
theorem figs_two {t : Str} (h : 1 ≤ t.length) (c0 : Nat) (h0 : t.cps[0]? = some c0) : (decide (V.str t = .str "0") || !decide (V.str ⟨#[c0]⟩ = .str "0")) = (!decide (V.str (cutS t none (some 1)) = .str "0") || decide (V.int (t.length : Int) = .int 1)) := by
  have hz : ("0" : Str) = ⟨#[48]⟩ := by decide +kernel
  rw [hz]
  obtain ⟨a, b⟩ : ∃ r, t.cps.toList = c0 :: r := by
    cases e : t.cps.toList with
    | nil => rw [← Array.getElem?_toList, e] at h0; cases h0
    | cons x r => rw [← Array.getElem?_toList, e] at h0; exact ⟨r, by rw [Option.some.inj h0]⟩
  have hl : t.length = a.length + 1 := by
    show t.cps.size = _
    rw [← Array.length_toList, b]
    rfl
  have hc : cutS t none (some 1) = ⟨#[c0]⟩ := by
    have e2 : HT.sIx t.length t.length (some 1) = 1 := by
      show (if (1 : Int) < 0 then ((1 : Int) + (t.length : Int)).toNat else min (1 : Int).toNat t.length) = 1
      rw [if_neg (by decide)]
      show min 1 t.length = 1
      omega
    unfold cutS
    rw [e2, b]
    rfl
  rw [hc]
  have e1 : decide (V.str (⟨#[c0]⟩ : Str) = .str ⟨#[48]⟩) = decide (c0 = 48) := decide_eq_decide.mpr ⟨fun z => by injection z with z; injection z with z; simpa using z, fun z => by rw [z]⟩
  have e2 : decide (V.int (t.length : Int) = .int 1) = decide (a = []) := decide_eq_decide.mpr ⟨fun z => List.length_eq_zero_iff.mp (by injection z with z; omega), fun z => by rw [hl, z]; rfl⟩
  have e3 : decide (V.str t = .str ⟨#[48]⟩) = (decide (c0 = 48) && decide (a = [])) := by
    rw [← Bool.decide_and]
    refine decide_eq_decide.mpr ⟨fun z => ?_, fun z => ?_⟩
    · injection z with z
      have q : t.cps.toList = [48] := by rw [z]
      rw [b] at q
      injection q with q1 q2
      exact ⟨q1, q2⟩
    · obtain ⟨rfl, rfl⟩ := z
      have q : t = ⟨#[48]⟩ := Str.ext' (Array.toList_inj.mp b)
      rw [q]
  rw [e1, e2, e3]
  cases decide (c0 = 48) <;> cases decide (a = []) <;> rfl
def spTrue : Sp := fun vs H Q _ => ∃ t : Str, vs = [.str t] ∧ t.length ≤ 1000 ∧ ∀ H', Same H H' → Q (.bl true) H'
section
variable {P : Program} {w : World} {K : PySem.W.Frag} {mg : Str → Option Value} {base : Heap} {aN : Addr} {t1 t2 : Tok}
theorem ok_l_is_number {f : Addr} {fd : FuncData} (D : Fn K mg "_law_is_number" st_l_is_number ["_law_text"] f fd) (T : Blt K mg aN t1 t2) : FnOk P w K mg base CX0 1 f fd ["_law_text"] (spB isFigs) := by
  refine D.F.ok sc_l_is_number (fun vs H Q E h => ?_) (fun cdv A outer s H vs Q E hr h => ?_)
  · obtain ⟨a, rfl, _⟩ := h
    rfl
  · obtain ⟨t, rfl, hl, k⟩ := h
    have hs := len_sz hl
    refine ⟨_, (pss_cons (ps_for PassesOwn.never rfl (pi_str (pv 0)) (pg_name (i := 1) sc_l_is_number.nd rfl (Or.inl rfl)) (pss_one (ps_if (pt_cmpR op_notIn_sign (pv 1) pe_str (by rfl)) (pss_one (ps_ret pe_bl)) pss_nil)))
      (pss_one (ps_ret (pe_and (pe_chain op_lt op_lt pe_int (pe_callB call_len_str (by rfl) T.len (by decide +kernel) (pa_cons (pv 0) pa_nil)) pe_int) (pe_one (pe_or (pe_cmpR op_ne (pe_slice sl_str (pv 0) po_none (po_some pe_int)) pe_str (nomark _)) (pe_one (pe_cmpR op_eq (pe_callB call_len_str (by rfl) T.len (by decide +kernel) (pa_cons (pv 0) pa_nil)) pe_int (nomark _))))))))), ?_⟩
    refine ⟨_, rfl, t, rfl, for_sign (x := t) (fun i σ H' => H' = H ∧ (∃ v, σ = [some (.str t), v]) ∧ ∀ c ∈ t.cps.toList.take i, c ∈ figs.cps.toList) ⟨rfl, ⟨_, rfl⟩, fun _ z => nomatch z⟩ (fun i c σ H' hc q => ?_) fun σ H' q => ?_⟩
    · obtain ⟨rfl, ⟨v, rfl⟩, q⟩ := q
      have hc' : t.cps.toList[i]? = some c := by rw [Array.getElem?_toList]; exact hc
      refine ⟨_, rfl, c, figs, rfl, rfl, _, rfl, ite2 (fun c1 => ?_) fun c1 => ?_⟩
      · have e : isFigs t = false := by
          have hn : ¬ c ∈ figs.cps.toList := by simpa using c1
          have e1 : onlyOf t figs = false := by
            unfold onlyOf
            rw [List.all_eq_false]
            exact ⟨c, List.mem_of_getElem? hc', by simpa using hn⟩
          unfold isFigs
          rw [e1, Bool.false_and, Bool.and_false]
        rw [e] at k
        exact k _ (Same.refl _)
      · have hn : c ∈ figs.cps.toList := by simpa using c1
        refine ⟨rfl, ⟨_, rfl⟩, fun x hx => ?_⟩
        have e : t.cps.toList.take (i + 1) = t.cps.toList.take i ++ [c] := by rw [List.take_add_one, hc']; rfl
        rw [e] at hx
        rcases List.mem_append.mp hx with hx | hx
        · exact q x hx
        · rw [List.mem_singleton.mp hx]; exact hn
    · obtain ⟨rfl, ⟨v, rfl⟩, q⟩ := q
      have e1 : onlyOf t figs = true := by
        unfold onlyOf
        rw [List.all_eq_true]
        intro x hx
        rw [List.take_of_length_le (by simp)] at q
        exact decide_eq_true (q x hx)
      unfold isFigs at k
      rw [e1] at k
      refine ⟨_, rfl, t, rfl, hs, _, _, rfl, rfl, _, rfl, ite2 (fun c1 => ?_) fun c1 => ?_⟩
      · have h1 : 1 ≤ t.length := by have := of_decide_eq_true c1; omega
        have d1 : decide (1 ≤ t.length) = true := decide_eq_true h1
        rw [d1] at k
        have h0 : t.cps[0]? = some t.cps[0] := Array.getElem?_eq_getElem h1
        have tw := figs_two h1 _ h0
        rw [h0] at k
        rw [Option.getD_some, tw] at k
        refine ⟨_, _, rfl, rfl, _, rfl, ite2 (fun c2 => ?_) fun c2 => ?_⟩
        · have d2 : decide (t.length ≤ 9) = true := decide_eq_true (by have := of_decide_eq_true c2; omega)
          rw [d2] at k
          refine ⟨_, rfl, _, rfl, t, rfl, hs, rfl, _, rfl, ite2 (fun c3 => ?_) fun c3 => ?_⟩
          · rw [c3] at k
            exact k _ (Same.refl _)
          · rw [Bool.not_eq_true] at c3
            rw [c3] at k
            refine ⟨_, rfl, t, rfl, hs, rfl, ?_⟩
            exact k _ (Same.refl _)
        · have d2 : decide (t.length ≤ 9) = false := decide_eq_false (fun z => c2 (decide_eq_true (by omega)))
          rw [d2] at k
          exact k _ (Same.refl _)
      · have d1 : decide (1 ≤ t.length) = false := decide_eq_false (fun z => c1 (decide_eq_true (by omega)))
        rw [d1] at k
        refine ⟨_, rfl, iteF ?_⟩
        exact k _ (Same.refl _)
theorem ok_right {f fo fn ff fk fln flf : Addr} {fd fdo fdn fdf fdk fdln fdlf : FuncData} (D : Fn K mg "_law_right" st_l_right ["_law_text"] f fd) (T : Blt K mg aN t1 t2)
    (Do : Fn K mg "only_of" st_only_of ["text", "signs"] fo fdo) (D_is_name : Fn K mg "is_name" st_is_name ["text"] fn fdn) (D_is_figures : Fn K mg "is_figures" st_is_figures ["text"] ff fdf)
    (Dk : Fn K mg "_law_kept" st_l_kept [] fk fdk) (D_l_is_name : Fn K mg "_law_is_name" st_l_is_name ["_law_text"] fln fdln) (D_l_is_number : Fn K mg "_law_is_number" st_l_is_number ["_law_text"] flf fdlf) :
    FnOk P w K mg base CX0 3 f fd ["_law_text"] spTrue := by
  have G_is_name : FnOk P w K mg base CX0 2 fn fdn _ (spB isName) := ok_is_name D_is_name T Do
  have G_is_figures : FnOk P w K mg base CX0 2 ff fdf _ (spB isFigs) := ok_is_figures D_is_figures T Do
  have G_l_is_name : FnOk P w K mg base CX0 2 fln fdln _ (spB isName) := ok_l_is_name D_l_is_name T Dk
  have G_l_is_number : FnOk P w K mg base CX0 1 flf fdlf _ (spB isFigs) := ok_l_is_number D_l_is_number T
  refine D.F.ok sc_l_right (fun vs H Q E h => ?_) (fun cdv A outer s H vs Q E hr h => ?_)
  · obtain ⟨a, rfl, _⟩ := h
    rfl
  · obtain ⟨t, rfl, hl, k⟩ := h
    refine ⟨_, (pss_cons (ps_par (i := 1) (j := 2) (by rfl) sc_l_right.nd rfl rfl (by decide) rfl rfl (pa_cons (pe_call G_is_name (hr.mono (by decide)) rfl D_is_name.mg D_is_name.kp D_is_name.b .nil pass0 (pa_cons (pv 0) pa_nil)) (pa_cons (pe_call G_is_figures (hr.mono (by decide)) rfl D_is_figures.mg D_is_figures.kp D_is_figures.b .nil pass0 (pa_cons (pv 0) pa_nil)) pa_nil)) (by rfl))
      (pss_cons (ps_if (PW.pt (pw_or (pt_not (pt_val (pe_callB call_isi (by rfl) T.isinstance (by decide +kernel) (pa_cons (pv 1) (pa_cons (pe_bltn (v := .ty "bool") (u := .type "bool") (by rfl) T.bool (by decide +kernel) rfl) pa_nil))))) (pw_or1 (pt_not (pt_val (pe_callB call_isi (by rfl) T.isinstance (by decide +kernel) (pa_cons (pv 2) (pa_cons (pe_bltn (v := .ty "bool") (u := .type "bool") (by rfl) T.bool (by decide +kernel) rfl) pa_nil)))))))) (pss_one (ps_ret pe_bl)) pss_nil)
      (pss_one (ps_ret (pe_and (pe_cmpR op_eq (pv 1) (pe_call G_l_is_name (hr.mono (by decide)) rfl D_l_is_name.mg D_l_is_name.kp D_l_is_name.b .nil pass0 (pa_cons (pv 0) pa_nil)) (nomark _)) (pe_one (pe_cmpR op_eq (pv 2) (pe_call G_l_is_number (hr.mono (by decide)) rfl D_l_is_number.mg D_l_is_number.kp D_l_is_number.b .nil pass0 (pa_cons (pv 0) pa_nil)) (nomark _)))))))), ?_⟩
    refine ⟨_, rfl, t, rfl, hl, fun H1 s1 => ⟨_, rfl, t, rfl, hl, fun H2 s2 => ⟨_, _, rfl, ?_⟩⟩⟩
    have kb : PySem.W.kitOne K (.type "bool") (.type "bool") = some true := kit_ty (by decide +kernel)
    refine ⟨_, rfl, _, _, _, _, true, rfl, .ty "bool", .base (.bl _), kb, _, rfl, iteF ?_⟩
    refine ⟨_, rfl, _, _, _, _, true, rfl, .ty "bool", .base (.bl _), kb, _, rfl, iteF ?_⟩
    refine ⟨_, rfl, _, rfl, t, rfl, hl, fun H3 s3 => ⟨rfl, _, rfl, ite2 (fun _ => ?_) fun c => absurd (decide_eq_true rfl) c⟩⟩
    refine ⟨_, rfl, _, rfl, t, rfl, hl, fun H4 s4 => ⟨rfl, ?_⟩⟩
    have e : decide (V.bl (isFigs t) = V.bl (isFigs t)) = true := decide_eq_true rfl
    rw [e]
    exact k _ (((s1.trans s2).trans s3).trans s4)
end
end Ak
namespace Ak
open PySem L2
theorem sz1000 {n : Nat} (h : n ≤ 1000) : n ≤ sizeLine := Nat.le_of_lt (small1000 h)
theorem txt_join (s : Str) (ts : List Str) : Txt.join s ts = Str.join s ts := by
  have h := PyProof.Rows.join_closes (ys := ts) (rfl : s = s)
  exact eq_of_beq h
def spSome : Sp := fun vs H Q _ => ∃ d l : Addr, vs = [.ref d] ∧ DealAt H d l ∧ ∀ (t : Str) (H' : Hp), t.length ≤ 100 → DealAt H' d l → Kp d l H H' → Q (.str t) H'
theorem nn_len : ∀ t ∈ NNs, t.length ≤ 8 := by decide +kernel
theorem lets_len : lets.length = 26 := by decide +kernel
def others : Str := "ABCXYZ0123456789abz _-+=.,;:<*~\n"
theorem others_len : others.length = 32 := by decide +kernel
theorem figs_len : figs.length = 10 := by decide +kernel
section
variable {P : Program} {w : World} {K : PySem.W.Frag} {mg : Str → Option Value} {base : Heap} {aN : Addr} {t1 t2 : Tok}
theorem ok_some {f fk fr : Addr} {fd fdk fdr : FuncData} (D : Fn K mg "_law_some" st_l_some ["_law_deal_here"] f fd) (T : Blt K mg aN t1 t2) (T' : BltD mg)
    (D_l_kept : Fn K mg "_law_kept" st_l_kept [] fk fdk) (D_l_draw : Fn K mg "_law_draw" st_l_draw ["_law_deal_here", "_law_many"] fr fdr) : FnOk P w K mg base CX0 2 f fd ["_law_deal_here"] spSome := by
  have G_l_kept : FnOk P w K mg base CX0 1 fk fdk [] spKept := ok_kept D_l_kept
  have G_l_draw : FnOk P w K mg base CX0 1 fr fdr _ spDraw := ok_draw D_l_draw T'
  refine D.F.ok sc_l_some (fun vs H Q E h => ?_) (fun cdv A outer s H vs Q E hr h => ?_)
  · obtain ⟨d, l, rfl, _⟩ := h
    rfl
  · obtain ⟨d, l, rfl, hD, k⟩ := h
    refine ⟨_, (pss_cons (ps_set (i := 1) sc_l_some.nd rfl (Or.inl rfl) (pe_call G_l_draw (hr.mono (by decide)) rfl D_l_draw.mg D_l_draw.kp D_l_draw.b .nil pass0 (pa_cons (pv 0) (pa_cons pe_int pa_nil))))
      (pss_cons (ps_set (i := 2) sc_l_some.nd rfl (Or.inl rfl) pe_str)
      (pss_cons (ps_if (pt_cmpR op_eq (pv 1) pe_int (nomark _)) (pss_cons (ps_set (i := 3) sc_l_some.nd rfl (Or.inl rfl) (pe_ix ix_list (pe_call0 G_l_kept (hr.mono (by decide)) rfl D_l_kept.mg D_l_kept.kp D_l_kept.b .nil pass0) (pe_call G_l_draw (hr.mono (by decide)) rfl D_l_draw.mg D_l_draw.kp D_l_draw.b .nil pass0 (pa_cons (pv 0) (pa_cons pe_int pa_nil))) (fun _ _ => rfl)))
      (pss_cons (ps_set (i := 4) sc_l_some.nd rfl (Or.inl rfl) (pe_ix ix_str (pv 2) (pe_call G_l_draw (hr.mono (by decide)) rfl D_l_draw.mg D_l_draw.kp D_l_draw.b .nil pass0 (pa_cons (pv 0) (pa_cons pe_int pa_nil))) (fun _ _ => rfl)))
      (pss_one (ps_ret (pe_ix ix_list (pe_lst (pa_cons (pv 3) (pa_cons (pe_op op_add_str (pv 3) (pv 4)) (pa_cons (pe_slice sl_str (pv 3) po_none (po_some (pe_un un_neg pe_int))) (pa_cons (pe_slice sl_str (pv 3) (po_some pe_int) po_none) (pa_cons (pe_op op_add_str (pv 4) (pv 3)) pa_nil)))))) (pe_call G_l_draw (hr.mono (by decide)) rfl D_l_draw.mg D_l_draw.kp D_l_draw.b .nil pass0 (pa_cons (pv 0) (pa_cons pe_int pa_nil))) (fun _ _ => rfl)))))) pss_nil)
      (pss_cons (ps_set (i := 5) sc_l_some.nd rfl (Or.inr rfl) (pe_ix ix_list (pe_lst (pa_cons (pv 2) (pa_cons pe_str pa_nil))) (pe_op op_fdivN (pv 1) pe_int) (fun _ _ => rfl)))
      (pss_cons (ps_set (i := 6) sc_l_some.nd rfl (Or.inl rfl) (pe_join pe_str (pe_lc (own := [("_law_k", 9)]) (g := gName 9) (tt := tYes) rfl sc_l_some.nd (pi_range1 rfl T.range (pa_cons (pe_call G_l_draw (hr.mono (by decide)) rfl D_l_draw.mg D_l_draw.kp D_l_draw.b .nil pass0 (pa_cons (pv 0) (pa_cons (pe_op op_sub pe_int (pe_op op_mul pe_int (pe_callTy call_int1 (by rfl) T.int (by decide +kernel) (pa_cons (pe_cmpR op_eq (pv 1) pe_int (nomark _)) pa_nil)))) pa_nil))) pa_nil)) (blkOk_by (own := [("_law_k", 9)]) (N := ["_law_deal_here", "_law_way", "_law_letters", "_law_word", "_law_more", "_law_signs", "_law_text", "_law_at", "_law_others", "_law_k"]) (sc := defScope st_l_some) (by decide +kernel)) (fun _ _ _ _ _ => (pg_name (i := 9) sc_l_some.nd rfl (Or.inl rfl))) (fun _ _ _ _ _ => pts_nil) (fun _ _ _ _ _ => (pe_ix ix_str (pv 5) (pe_call G_l_draw (hr.mono (by decide)) rfl D_l_draw.mg D_l_draw.kp D_l_draw.b .nil pass0 (pa_cons (pv 0) (pa_cons (pe_callB call_len_str (by rfl) T.len (by decide +kernel) (pa_cons (pv 5) pa_nil)) pa_nil))) (fun _ _ => rfl))))))
      (C8.pss_cut (ps_if (PW.pt (pw_and (pt_cmpR op_gt (pv 1) pe_int (nomark _)) (pw_and1 (pt_cmpR op_eq (pe_call G_l_draw (hr.mono (by decide)) rfl D_l_draw.mg D_l_draw.kp D_l_draw.b .nil pass0 (pa_cons (pv 0) (pa_cons pe_int pa_nil))) pe_int (nomark _))))) (pss_one (ps_set (i := 6) sc_l_some.nd rfl (Or.inl rfl) (pe_op op_add_str pe_str (pv 6)))) pss_nil)
      (C8.pss_cut (ps_if (pt_cmpR op_eq (pe_call G_l_draw (hr.mono (by decide)) rfl D_l_draw.mg D_l_draw.kp D_l_draw.b .nil pass0 (pa_cons (pv 0) (pa_cons (pe_op op_mul pe_int (pv 1)) pa_nil))) pe_int (nomark _)) (pss_cons (ps_set (i := 7) sc_l_some.nd rfl (Or.inl rfl) (pe_call G_l_draw (hr.mono (by decide)) rfl D_l_draw.mg D_l_draw.kp D_l_draw.b .nil pass0 (pa_cons (pv 0) (pa_cons (pe_op op_add (pe_callB call_len_str (by rfl) T.len (by decide +kernel) (pa_cons (pv 6) pa_nil)) pe_int) pa_nil))))
      (pss_cons (ps_set (i := 8) sc_l_some.nd rfl (Or.inl rfl) pe_str)
      (pss_one (ps_set (i := 6) sc_l_some.nd rfl (Or.inl rfl) (pe_op op_add_str (pe_op op_add_str (pe_slice sl_str (pv 6) po_none (po_some (pv 7))) (pe_ix ix_str (pv 8) (pe_call G_l_draw (hr.mono (by decide)) rfl D_l_draw.mg D_l_draw.kp D_l_draw.b .nil pass0 (pa_cons (pv 0) (pa_cons (pe_callB call_len_str (by rfl) T.len (by decide +kernel) (pa_cons (pv 8) pa_nil)) pa_nil))) (fun _ _ => rfl))) (pe_slice sl_str (pv 6) (po_some (pv 7)) po_none)))))) pss_nil)
      (pss_one (ps_ret (pv 6)))))))))), ?_⟩
    -- way = draw(4)
    refine ⟨_, rfl, d, l, 4, rfl, hD, by decide, by decide, fun way H1 w0 w1 D1 k1 => ?_⟩
    -- letters; if way == 0
    refine ⟨_, rfl, rfl, _, rfl, ite2 (fun c => ?_) fun c => ?_⟩
    · -- word = kept()[draw(28)]
      refine ⟨rfl, fun p H2 hp h2 s2 => ⟨_, rfl, d, l, 28, rfl, D1.same s2, by decide, by decide, fun r H3 r0 r1 D3 k3 => ?_⟩⟩
      have np := D1.new hp
      have h3 : H3 p = some (.lst (NNs.map V.str)) := k3 _ _ h2 np.1 np.2
      obtain ⟨v, hv, hm⟩ := atI_in (xs := NNs.map V.str) r0 (by simpa [NNs] using r1)
      obtain ⟨u, hu, rfl⟩ := List.mem_map.mp hm
      have ul := nn_len u hu
      refine ⟨p, _, _, _, rfl, rfl, SqL.of h3, hv, ?_⟩
      -- more = letters[draw(26)]
      refine ⟨_, rfl, _, rfl, d, l, 26, rfl, D3, by decide, by decide, fun r' H4 r0' r1' D4 k4 => ?_⟩
      obtain ⟨cc, hcc, _⟩ := atI_in (xs := lets.cps.toList) r0' (by have := lets_len; rw [Array.length_toList]; show r' < ((lets.length : Nat) : Int); omega)
      refine ⟨lets, _, cc, rfl, rfl, by rw [lets_len]; decide, hcc, ?_⟩
      -- the five, drawn
      have l1 : (⟨#[cc]⟩ : Str).length = 1 := rfl
      have q1 := cutS_le u none (some (-1))
      have q2 := cutS_le u (some 1) none
      refine ⟨_, rfl, _, rfl, _, rfl, _, _, rfl, rfl, sz1000 (by omega), _, rfl, 1, rfl, _, rfl, u, rfl, sz1000 (by omega), _, rfl, 1, rfl, u, rfl, sz1000 (by omega), _, rfl, _, rfl, _, _, rfl, rfl, sz1000 (by omega), by show 5 ≤ sizeLine; decide, fun p5 hp5 => ?_⟩
      refine ⟨_, rfl, d, l, 5, rfl, D4.same (Same.new hp5), by decide, by decide, fun r5 H5 r50 r51 D5 k5 => ?_⟩
      have np5 := D4.new hp5
      have h5 := k5 _ _ upd_same np5.1 np5.2
      obtain ⟨v5, hv5, hm5⟩ := atI_in (xs := [V.str u, .str (u ++ ⟨#[cc]⟩), .str (cutS u none (some (-1))), .str (cutS u (some 1) none), .str (⟨#[cc]⟩ ++ u)]) r50 (by simpa using r51)
      refine ⟨p5, _, _, _, rfl, rfl, SqL.of h5, hv5, ?_⟩
      have kk : Kp d l H H5 := ((k1.trans (Kp.same s2)).trans (k3.trans k4)).trans ((Kp.same (Same.new hp5)).trans k5)
      have lv : ∃ t : Str, v5 = .str t ∧ t.length ≤ 100 := by
        simp only [List.mem_cons, List.not_mem_nil, or_false] at hm5
        rcases hm5 with rfl | rfl | rfl | rfl | rfl
        · exact ⟨_, rfl, by omega⟩
        · exact ⟨_, rfl, by rw [add_len]; omega⟩
        · exact ⟨_, rfl, by omega⟩
        · exact ⟨_, rfl, by omega⟩
        · exact ⟨_, rfl, by rw [add_len]; omega⟩
      obtain ⟨t, rfl, ht⟩ := lv
      exact k t _ ht D5 kk
    · have wn : way ≠ 0 := fun z => c (by rw [z]; exact decide_eq_true rfl)
      -- signs
      refine ⟨_, rfl, by show 2 ≤ sizeLine; decide, fun q hq => ?_⟩
      have nq := D1.new hq
      have hf0 : 0 ≤ way.fdiv 2 := Int.fdiv_nonneg w0 (by decide)
      have hf1 : way.fdiv 2 < 2 := by rw [Int.fdiv_eq_ediv_of_nonneg _ (by decide)]; omega
      obtain ⟨sv, hsv, hsm⟩ := atI_in (xs := [V.str lets, V.str figs]) hf0 (by simpa using hf1)
      refine ⟨_, rfl, _, _, rfl, rfl, ⟨by decide, by decide⟩, q, _, _, _, rfl, rfl, SqL.of upd_same, hsv, ?_⟩
      obtain ⟨sg, rfl, g1, g2⟩ : ∃ sg : Str, sv = .str sg ∧ 1 ≤ sg.length ∧ sg.length ≤ 26 := by
        simp only [List.mem_cons, List.not_mem_nil, or_false] at hsm
        rcases hsm with rfl | rfl
        · exact ⟨_, rfl, by rw [lets_len]; decide, by rw [lets_len]; decide⟩
        · exact ⟨_, rfl, by rw [figs_len]; decide, by rw [figs_len]; decide⟩
      have D1' : DealAt (upd H1 q (.lst [V.str lets, V.str figs])) d l := D1.same (Same.new hq)
      -- the text
      refine ⟨⟨_, rfl⟩, ?_⟩
      have b1 : ∀ b : Bool, (1 : Int) ≤ 13 - 2 * (if b = true then 1 else 0) ∧ (13 : Int) - 2 * (if b = true then 1 else 0) ≤ 13 := fun b => by cases b <;> decide
      refine ⟨_, rfl, _, rfl, rfl, .inr ⟨_, rfl, _, _, rfl, rfl, .inl ⟨by decide, by decide⟩, _, _, rfl, rfl, d, l, _, rfl, D1', (b1 _).1, Int.lt_of_le_of_lt (b1 _).2 (by decide), fun m H2 m0 m1 D2 k2 => ?_⟩⟩
      have m2 := Int.lt_of_lt_of_le m1 (b1 _).2
      refine ⟨m, rfl, by omega, by omega, fun L hL => ?_⟩
      have nL := D2.new hL
      have kp2 := (k1.trans (Kp.same (Same.new hq))).trans k2
      refine lc_range (lo := 0) (n := m.toNat) (fun i H' => DealAt H' d l ∧ Kp d l H H' ∧ ∃ ts : List Str, H' L = some (.lst (ts.map V.str)) ∧ ts.length = i ∧ ∀ t ∈ ts, t.length = 1) ⟨D2.same (Same.new hL), ((k1.trans (Kp.same (Same.new hq))).trans k2).trans (Kp.same (Same.new hL)), [], upd_same, rfl, fun _ z => nomatch z⟩ (fun i H' hi q => ?_) fun H' q => ?_
      · obtain ⟨q1, q2, ts, q3, q4, q5⟩ := q
        refine ⟨rfl, lc_yes ?_⟩
        refine ⟨_, rfl, _, rfl, _, rfl, sg, rfl, sz1000 (by omega), d, l, _, rfl, q1, by omega, by omega, fun r H3 r0 r1 D3 k3 => ?_⟩
        obtain ⟨cc, hcc, _⟩ := atI_in (xs := sg.cps.toList) r0 (by rw [Array.length_toList]; exact r1)
        have h3 := k3 _ _ q3 nL.1 nL.2
        refine ⟨sg, _, cc, rfl, rfl, sz1000 (by omega), hcc, _, h3, small1000 (by simp; omega), D3.upd nL, ?_, ts ++ [⟨#[cc]⟩], by rw [upd_same, List.map_append]; rfl, by simp [q4], ?_⟩
        · exact Kp.mut kp2 (q2.trans k3) hL
        · intro t ht
          rcases List.mem_append.mp ht with ht | ht
          · exact q5 t ht
          · rw [List.mem_singleton.mp ht]; rfl
      · obtain ⟨q1, q2, ts, q3, q4, q5⟩ := q
        have es : (ts.map (·.length)).sum = ts.length := sum_ones q5
        have jl : (Txt.join Str.empty ts).length = ts.length := by rw [txt_join]; exact (join_len ts).trans es
        refine ⟨Str.empty, L, ts, rfl, rfl, .inl (SqL.of q3), by rw [es]; show ts.length + ts.length * 0 ≤ _; omega, ?_⟩
        have tl0 : (Txt.join Str.empty ts).length ≤ 13 := by rw [jl, q4]; omega
        generalize Txt.join Str.empty ts = t0 at tl0 ⊢
        -- if way > 1 and draw(3) == 0
        refine ⟨fun σ H' => DealAt H' d l ∧ Kp d l H H' ∧ ∃ (t : Str) (v7 v8 v9 : Option V), t.length ≤ 14 ∧ σ = [some (.ref d), some (.int way), some (.str lets), none, none, some (.str sg), some (.str t), v7, v8, v9], ?_, ?_⟩
        · refine ⟨_, rfl, _, _, rfl, rfl, _, rfl, ite2 (fun c1 => ?_) fun c1 => ?_⟩
          · refine ⟨_, rfl, d, l, 3, rfl, q1, by decide, by decide, fun r H3 r0 r1 D3 k3 => ⟨rfl, _, rfl, ite2 (fun c2 => ?_) fun c2 => ?_⟩⟩
            · refine ⟨_, rfl, _, _, rfl, rfl, sz1000 (by show 1 + t0.length ≤ 1000; omega), ?_⟩
              exact ⟨D3, q2.trans k3, _, _, _, _, by rw [add_len]; show 1 + t0.length ≤ 14; omega, rfl⟩
            · exact ⟨D3, q2.trans k3, _, _, _, _, by omega, rfl⟩
          · exact ⟨q1, q2, _, _, _, _, by omega, rfl⟩
        · rintro σ H3 ⟨D3, k3, t, v7, v8, v9, tl, rfl⟩
          -- if draw(3 * way) == 0
          refine ⟨fun σ H' => DealAt H' d l ∧ Kp d l H H' ∧ ∃ (t : Str) (v7 v8 v9 : Option V), t.length ≤ 50 ∧ σ = [some (.ref d), some (.int way), some (.str lets), none, none, some (.str sg), some (.str t), v7, v8, v9], ?_, ?_⟩
          · refine ⟨_, rfl, _, rfl, _, _, rfl, rfl, .inl ⟨by decide, by decide⟩, d, l, _, rfl, D3, by omega, by omega, fun r H4 r0 r1 D4 k4 => ⟨rfl, _, rfl, ite2 (fun c2 => ?_) fun c2 => ?_⟩⟩
            · refine ⟨_, rfl, _, rfl, t, rfl, sz1000 (by omega), _, _, rfl, rfl, d, l, _, rfl, D4, by omega, by omega, fun at' H5 r0' r1' D5 k5 => ?_⟩
              refine ⟨_, rfl, _, rfl, at', rfl, t, rfl, sz1000 (by omega), _, rfl, _, rfl, _, rfl, others, rfl, sz1000 (by rw [others_len]; decide), d, l, _, rfl, D5, by rw [others_len]; decide, by rw [others_len]; decide, fun r6 H6 r60 r61 D6 k6 => ?_⟩
              obtain ⟨cc, hcc, _⟩ := atI_in (xs := others.cps.toList) r60 (by rw [Array.length_toList]; exact r61)
              have l1 : (⟨#[cc]⟩ : Str).length = 1 := rfl
              have z1 := cutS_le t none (some at')
              have z2 := cutS_le t (some at') none
              refine ⟨others, _, cc, rfl, rfl, sz1000 (by rw [others_len]; decide), hcc, _, _, rfl, rfl, sz1000 (by omega), _, rfl, _, rfl, at', rfl, t, rfl, sz1000 (by omega), _, _, rfl, rfl, sz1000 (by rw [add_len]; omega), ?_⟩
              exact ⟨D6, ((k3.trans k4).trans k5).trans k6, _, _, _, _, by rw [add_len, add_len]; omega, rfl⟩
            · exact ⟨D4, k3.trans k4, _, _, _, _, by omega, rfl⟩
          · rintro σ H4 ⟨D4, k4, t, v7, v8, v9, tl, rfl⟩
            exact ⟨_, rfl, k t _ (by omega) D4 k4⟩
end
end Ak
namespace Ak
open PySem L2
def spLaw (K : PySem.W.Frag) : Sp := fun vs H Q _ => ∃ (a : Addr) (ns : List Int), vs = [.ref a] ∧ SqL K H a (ns.map V.int) ∧ ns.length ≤ 63 ∧ ∀ H', Q (.bl true) H'
section
variable {P : Program} {w : World} {K : PySem.W.Frag} {mg : Str → Option Value} {base : Heap} {aN : Addr} {t1 t2 : Tok}
theorem ok_law {f g1 g2 g3 g4 g5 g6 g7 g8 g9 g10 : Addr} {fd e1 e2 e3 e4 e5 e6 e7 e8 e9 e10 : FuncData} (D : Fn K mg "law" st_law ["_law_script"] f fd) (T : Blt K mg aN t1 t2) (T' : BltD mg)
    (D_only_of : Fn K mg "only_of" st_only_of ["text", "signs"] g1 e1) (D_is_name : Fn K mg "is_name" st_is_name ["text"] g2 e2) (D_is_figures : Fn K mg "is_figures" st_is_figures ["text"] g3 e3)
    (D_l_deal : Fn K mg "_law_deal" st_l_deal ["_law_script", "_law_base"] g4 e4) (D_l_draw : Fn K mg "_law_draw" st_l_draw ["_law_deal_here", "_law_many"] g5 e5) (D_l_kept : Fn K mg "_law_kept" st_l_kept [] g6 e6) (D_l_some : Fn K mg "_law_some" st_l_some ["_law_deal_here"] g7 e7)
    (D_l_is_name : Fn K mg "_law_is_name" st_l_is_name ["_law_text"] g8 e8) (D_l_is_number : Fn K mg "_law_is_number" st_l_is_number ["_law_text"] g9 e9) (D_l_right : Fn K mg "_law_right" st_l_right ["_law_text"] g10 e10) :
    FnOk P w K mg base CX0 4 f fd ["_law_script"] (spLaw K) := by
  have G_l_deal : FnOk P w K mg base CX0 1 g4 e4 _ (spDeal K) := ok_deal D_l_deal T'
  have G_l_some : FnOk P w K mg base CX0 2 g7 e7 _ spSome := ok_some D_l_some T T' D_l_kept D_l_draw
  have G_l_right : FnOk P w K mg base CX0 3 g10 e10 _ spTrue := ok_right D_l_right T D_only_of D_is_name D_is_figures D_l_kept D_l_is_name D_l_is_number
  refine D.F.ok sc_law (fun vs H Q E h => ?_) (fun cdv A outer s H vs Q E hr h => ?_)
  · obtain ⟨a, ns, rfl, _⟩ := h
    rfl
  · obtain ⟨a, ns, rfl, hS, hlen, k⟩ := h
    refine ⟨_, (pss_cons (ps_set (i := 1) sc_law.nd rfl (Or.inl rfl) (pe_call G_l_deal (hr.mono (by decide)) rfl D_l_deal.mg D_l_deal.kp D_l_deal.b .nil pass0 (pa_cons (pv 0) (pa_cons pe_int pa_nil))))
      (pss_cons (ps_set (i := 2) sc_law.nd rfl (Or.inl rfl) (pe_lst (pa_cons pe_str (pa_cons pe_str (pa_cons pe_str (pa_cons pe_str (pa_cons pe_str (pa_cons pe_str (pa_cons pe_str (pa_cons pe_str (pa_cons pe_str (pa_cons pe_str (pa_cons pe_str (pa_cons pe_str (pa_cons pe_str (pa_cons pe_str pa_nil))))))))))))))))
      (pss_cons (ps_for PassesOwn.never rfl (pi_range1 rfl T.range (pa_cons (pe_op op_add pe_int (pe_callB call_len_seq (by rfl) T.len (by decide +kernel) (pa_cons (pe_slice sl_list (pv 0) po_none (po_some pe_int)) pa_nil))) pa_nil)) (pg_name (i := 3) sc_law.nd rfl (Or.inl rfl)) (pss_one (ps_expr (pe_bm PySem.F.plainAttrs_list PySem.F.slot_list_append PySem.F.type_list_append mt_append (pv 2) (pa_cons (pe_call G_l_some (hr.mono (by decide)) rfl D_l_some.mg D_l_some.kp D_l_some.b .nil pass0 (pa_cons (pv 1) pa_nil)) pa_nil)))))
      (pss_cons (ps_for PassesOwn.never rfl (pi_list (pe_op op_cat (pv 2) (pe_revL (pv 2)))) (pg_name (i := 4) sc_law.nd rfl (Or.inl rfl)) (pss_one (ps_if (pt_not (pt_val (pe_call G_l_right (hr.mono (by decide)) rfl D_l_right.mg D_l_right.kp D_l_right.b .nil pass0 (pa_cons (pv 4) pa_nil)))) (pss_one (ps_ret pe_bl)) pss_nil)))
      (pss_one (ps_ret pe_bl)))))), ?_⟩
    refine ⟨_, rfl, a, ns, 0, rfl, hS, by omega, by decide, by decide, fun d l H1 hd hl D1 s1 => ?_⟩
    -- texts
    refine ⟨by show 14 ≤ sizeLine; decide, fun p hp => ?_⟩
    have np := D1.new hp
    have hS2 : ∀ o, SqL K (upd H1 p o) a (ns.map V.int) := fun o => (s1.trans (Same.new hp)).seq hS
    refine ⟨_, rfl, 63, rfl, a, _, rfl, hS2 _, fun q hq => ⟨q, _, rfl, .inl (SqL.of upd_same), _, _, rfl, rfl, ?_⟩⟩
    have cl := cutV_length (ns.map V.int) none (some 63)
    rw [List.length_map] at cl
    have nqp : q ≠ p := by intro z; rw [z, upd_same] at hq; cases hq
    refine ⟨_, rfl, by omega, by omega, for_range (lo := 0) (n := (12 + ((cutV (ns.map V.int) none (some 63)).length : Int)).toNat) (fun i σ H' => DealAt H' d l ∧ ∃ (v3 v4 : Option V) (ts : List Str), σ = [some (.ref a), some (.ref d), some (.ref p), v3, v4] ∧ H' p = some (.lst (ts.map V.str)) ∧ ts.length = 14 + i ∧ ∀ t ∈ ts, t.length ≤ 100)
      ⟨(D1.upd np).same (Same.new hq), none, none, ["", "0", "00", "01", "-1", "+1", "1_0", " 1", "1 ", "a\n", "1\n", " a", "999999999", "1000000000"], rfl, by rw [upd_ne nqp.symm]; exact upd_same, rfl, by decide +kernel⟩ (fun i σ H' hi q => ?_) fun σ H' q => ?_⟩
    · obtain ⟨D2, v3, v4, ts, rfl, q1, q2, q3⟩ := q
      refine ⟨_, rfl, .inl ⟨rfl, _, SqL.of q1⟩, _, rfl, d, l, rfl, D2, fun t H3 tl D3 k3 => ?_⟩
      have h3 := k3 _ _ q1 np.1 np.2
      refine ⟨p, _, _, rfl, rfl, h3, small1000 (by rw [List.length_map]; omega), ?_⟩
      refine ⟨D3.upd np, _, _, ts ++ [t], rfl, by rw [upd_same, List.map_append]; rfl, by simp [q2]; omega, fun u hu => ?_⟩
      rcases List.mem_append.mp hu with hu | hu
      · exact q3 u hu
      · rw [List.mem_singleton.mp hu]; exact tl
    · obtain ⟨D2, v3, v4, ts, rfl, q1, q2, q3⟩ := q
      refine ⟨_, rfl, _, rfl, p, _, rfl, SqL.of q1, fun r hr => ?_⟩
      have npr : p ≠ r := ne_of_none q1 hr
      refine ⟨p, r, _, _, rfl, rfl, by rw [upd_ne npr]; exact q1, upd_same, Nat.le_of_lt (small1000 (by rw [List.length_reverse, List.length_map]; omega)), fun u hu => ?_⟩
      rw [← List.map_reverse, ← List.map_append]
      refine ⟨u, rfl, ⟨_, SqL.of upd_same⟩, for_list (xs := (ts ++ ts.reverse).map V.str) (fun i σ H' => H' u = some (.lst ((ts ++ ts.reverse).map V.str)) ∧ ∃ v4, σ = [some (.ref a), some (.ref d), some (.ref p), v3, v4]) ⟨upd_same, _, rfl⟩ (fun i σ H' _ q => SqL.of q.1) (fun i x σ H' hx q => ?_) fun σ H' q => ?_⟩
      · obtain ⟨q4, v4', rfl⟩ := q
        obtain ⟨t, ht, rfl⟩ : ∃ t ∈ ts ++ ts.reverse, x = V.str t := by
          obtain ⟨t, ht, e⟩ := List.mem_map.mp (List.mem_of_getElem? hx)
          exact ⟨t, ht, e.symm⟩
        have tl : t.length ≤ 1000 := by
          rcases List.mem_append.mp ht with ht | ht
          · have := q3 t ht; omega
          · have := q3 t (List.mem_reverse.mp ht); omega
        refine ⟨_, rfl, t, rfl, tl, fun H3 s3 => ⟨_, rfl, iteF ?_⟩⟩
        exact ⟨s3 _ _ q4, _, rfl⟩
      · exact k H'
end

/-! ### What the top has left, and the law's own head -/
theorem all_mk {l : PySem.W.OpenLaw} {w : World} {K : PySem.W.Frag} {h : Heap} {mg : Str → Option Value} {fa : Addr} (X : K.In h) (G : h.Ns mainGlobals mg) (hfa : mg "law" = some (.ref fa))
    {f0 f1 f2 f3 f4 f5 f6 f7 f8 f9 f10 : Addr} {od0 an0 od1 an1 od2 an2 od3 an3 od4 an4 od5 an5 od6 an6 od7 an7 od8 an8 od9 an9 od10 an10 : Option Addr} {sl0 sl1 sl2 sl3 sl4 sl5 sl6 sl7 sl8 sl9 sl10 : Array (Option Value)} {oc0 kV0 dc0 pm0 cd0 ct0 oc1 kV1 dc1 pm1 cd1 ct1 oc2 kV2 dc2 pm2 cd2 ct2 oc3 kV3 dc3 pm3 cd3 ct3 oc4 kV4 dc4 pm4 cd4 ct4 oc5 kV5 dc5 pm5 cd5 ct5 oc6 kV6 dc6 pm6 cd6 ct6 oc7 kV7 dc7 pm7 cd7 ct7 oc8 kV8 dc8 pm8 cd8 ct8 oc9 kV9 dc9 pm9 cd9 ct9 oc10 kV10 dc10 pm10 cd10 ct10 : Value}
    {t1 t2 : Tok} {aN : Addr} {dN : Option Addr} {usN : Array Value} {nN : Nat} {slN : Array (Option Value)}
    (a0 : PySem.W.nsIn K mainGlobals "only_of" = some (some (.ref f0))) (l0 : K.lookup f0 = some ⟨oc0, od0, .func (PySem.W.fnOf "only_of" "only_of" (defArgs st_only_of) (defBody st_only_of) (defScope st_only_of) .none kV0 dc0 pm0 an0 cd0 ct0), sl0⟩) (c0 : PySem.W.codeIn K cd0 "only_of" = true) (k0 : PySem.W.keepIn K (.ref f0) = true)
    (a1 : PySem.W.nsIn K mainGlobals "is_name" = some (some (.ref f1))) (l1 : K.lookup f1 = some ⟨oc1, od1, .func (PySem.W.fnOf "is_name" "is_name" (defArgs st_is_name) (defBody st_is_name) (defScope st_is_name) .none kV1 dc1 pm1 an1 cd1 ct1), sl1⟩) (c1 : PySem.W.codeIn K cd1 "is_name" = true) (k1 : PySem.W.keepIn K (.ref f1) = true)
    (a2 : PySem.W.nsIn K mainGlobals "is_figures" = some (some (.ref f2))) (l2 : K.lookup f2 = some ⟨oc2, od2, .func (PySem.W.fnOf "is_figures" "is_figures" (defArgs st_is_figures) (defBody st_is_figures) (defScope st_is_figures) .none kV2 dc2 pm2 an2 cd2 ct2), sl2⟩) (c2 : PySem.W.codeIn K cd2 "is_figures" = true) (k2 : PySem.W.keepIn K (.ref f2) = true)
    (a3 : PySem.W.nsIn K mainGlobals "_law_deal" = some (some (.ref f3))) (l3 : K.lookup f3 = some ⟨oc3, od3, .func (PySem.W.fnOf "_law_deal" "_law_deal" (defArgs st_l_deal) (defBody st_l_deal) (defScope st_l_deal) .none kV3 dc3 pm3 an3 cd3 ct3), sl3⟩) (c3 : PySem.W.codeIn K cd3 "_law_deal" = true) (k3 : PySem.W.keepIn K (.ref f3) = true)
    (a4 : PySem.W.nsIn K mainGlobals "_law_draw" = some (some (.ref f4))) (l4 : K.lookup f4 = some ⟨oc4, od4, .func (PySem.W.fnOf "_law_draw" "_law_draw" (defArgs st_l_draw) (defBody st_l_draw) (defScope st_l_draw) .none kV4 dc4 pm4 an4 cd4 ct4), sl4⟩) (c4 : PySem.W.codeIn K cd4 "_law_draw" = true) (k4 : PySem.W.keepIn K (.ref f4) = true)
    (a5 : PySem.W.nsIn K mainGlobals "_law_kept" = some (some (.ref f5))) (l5 : K.lookup f5 = some ⟨oc5, od5, .func (PySem.W.fnOf "_law_kept" "_law_kept" (defArgs st_l_kept) (defBody st_l_kept) (defScope st_l_kept) .none kV5 dc5 pm5 an5 cd5 ct5), sl5⟩) (c5 : PySem.W.codeIn K cd5 "_law_kept" = true) (k5 : PySem.W.keepIn K (.ref f5) = true)
    (a6 : PySem.W.nsIn K mainGlobals "_law_some" = some (some (.ref f6))) (l6 : K.lookup f6 = some ⟨oc6, od6, .func (PySem.W.fnOf "_law_some" "_law_some" (defArgs st_l_some) (defBody st_l_some) (defScope st_l_some) .none kV6 dc6 pm6 an6 cd6 ct6), sl6⟩) (c6 : PySem.W.codeIn K cd6 "_law_some" = true) (k6 : PySem.W.keepIn K (.ref f6) = true)
    (a7 : PySem.W.nsIn K mainGlobals "_law_is_name" = some (some (.ref f7))) (l7 : K.lookup f7 = some ⟨oc7, od7, .func (PySem.W.fnOf "_law_is_name" "_law_is_name" (defArgs st_l_is_name) (defBody st_l_is_name) (defScope st_l_is_name) .none kV7 dc7 pm7 an7 cd7 ct7), sl7⟩) (c7 : PySem.W.codeIn K cd7 "_law_is_name" = true) (k7 : PySem.W.keepIn K (.ref f7) = true)
    (a8 : PySem.W.nsIn K mainGlobals "_law_is_number" = some (some (.ref f8))) (l8 : K.lookup f8 = some ⟨oc8, od8, .func (PySem.W.fnOf "_law_is_number" "_law_is_number" (defArgs st_l_is_number) (defBody st_l_is_number) (defScope st_l_is_number) .none kV8 dc8 pm8 an8 cd8 ct8), sl8⟩) (c8 : PySem.W.codeIn K cd8 "_law_is_number" = true) (k8 : PySem.W.keepIn K (.ref f8) = true)
    (a9 : PySem.W.nsIn K mainGlobals "_law_right" = some (some (.ref f9))) (l9 : K.lookup f9 = some ⟨oc9, od9, .func (PySem.W.fnOf "_law_right" "_law_right" (defArgs st_l_right) (defBody st_l_right) (defScope st_l_right) .none kV9 dc9 pm9 an9 cd9 ct9), sl9⟩) (c9 : PySem.W.codeIn K cd9 "_law_right" = true) (k9 : PySem.W.keepIn K (.ref f9) = true)
    (a10 : PySem.W.nsIn K mainGlobals "law" = some (some (.ref f10))) (l10 : K.lookup f10 = some ⟨oc10, od10, .func (PySem.W.fnOf "law" "law" (defArgs st_law) (defBody st_law) (defScope st_law) .none kV10 dc10 pm10 an10 cd10 ct10), sl10⟩) (c10 : PySem.W.codeIn K cd10 "law" = true) (k10 : PySem.W.keepIn K (.ref f10) = true)
    (z_len : PySem.W.nsIn K mainGlobals "len" = some none)
    (z_list : PySem.W.nsIn K mainGlobals "list" = some none)
    (z_reversed : PySem.W.nsIn K mainGlobals "reversed" = some none)
    (z_max : PySem.W.nsIn K mainGlobals "max" = some none)
    (z_all : PySem.W.nsIn K mainGlobals "all" = some none)
    (z_int : PySem.W.nsIn K mainGlobals "int" = some none)
    (z_bool : PySem.W.nsIn K mainGlobals "bool" = some none)
    (z_range : PySem.W.nsIn K mainGlobals "range" = some none)
    (z_isinstance : PySem.W.nsIn K mainGlobals "isinstance" = some none)
    (x1 : PySem.W.nsIn K mainGlobals "LETTERS" = some (some (.str lets t1)))
    (x2 : PySem.W.nsIn K mainGlobals "FIGURES" = some (some (.str figs t2)))
    (x3 : PySem.W.nsIn K mainGlobals "NO_NAMES" = some (some (.ref aN)))
    (x4 : K.lookup aN = some ⟨.type "tuple", dN, .seq usN nN, slN⟩)
    (x5 : usN.size ≤ sizeLine)
    (x6 : L2.Vals (NNs.map L2.V.str) usN.toList)
    : ∃ fd : FuncData, (∀ (s : Shared) (v : Value), BindsTo s fd ⟨[v], []⟩ [("_law_script", v)]) ∧ ∀ base : Heap, K.In base → base.Ns mainGlobals mg → FnOk l.prog w K mg base CX0 4 fa fd ["_law_script"] (spLaw K) := by
  have e := hfa.symm.trans (PySem.W.mg_of X G a10)
  cases e
  have m_len := PySem.W.mg_none_of X G z_len
  have m_list := PySem.W.mg_none_of X G z_list
  have m_reversed := PySem.W.mg_none_of X G z_reversed
  have m_max := PySem.W.mg_none_of X G z_max
  have m_all := PySem.W.mg_none_of X G z_all
  have m_int := PySem.W.mg_none_of X G z_int
  have m_bool := PySem.W.mg_none_of X G z_bool
  have m_range := PySem.W.mg_none_of X G z_range
  have m_isinstance := PySem.W.mg_none_of X G z_isinstance
  have F0 := fun_mk (st := st_only_of) l0 c0 k0
  have b0 := F0.binds (ps := ["text", "signs"]) fun _ _ _ _ _ _ us hl => match us, hl with | [_, _], _ => rfl
  have D_only_of : Fn K mg "only_of" st_only_of ["text", "signs"] _ _ := ⟨PySem.W.mg_of X G a0, k0, F0, b0⟩
  have F1 := fun_mk (st := st_is_name) l1 c1 k1
  have b1 := F1.binds (ps := ["text"]) fun _ _ _ _ _ _ us hl => match us, hl with | [_], _ => rfl
  have D_is_name : Fn K mg "is_name" st_is_name ["text"] _ _ := ⟨PySem.W.mg_of X G a1, k1, F1, b1⟩
  have F2 := fun_mk (st := st_is_figures) l2 c2 k2
  have b2 := F2.binds (ps := ["text"]) fun _ _ _ _ _ _ us hl => match us, hl with | [_], _ => rfl
  have D_is_figures : Fn K mg "is_figures" st_is_figures ["text"] _ _ := ⟨PySem.W.mg_of X G a2, k2, F2, b2⟩
  have F3 := fun_mk (st := st_l_deal) l3 c3 k3
  have b3 := F3.binds (ps := ["_law_script", "_law_base"]) fun _ _ _ _ _ _ us hl => match us, hl with | [_, _], _ => rfl
  have D_l_deal : Fn K mg "_law_deal" st_l_deal ["_law_script", "_law_base"] _ _ := ⟨PySem.W.mg_of X G a3, k3, F3, b3⟩
  have F4 := fun_mk (st := st_l_draw) l4 c4 k4
  have b4 := F4.binds (ps := ["_law_deal_here", "_law_many"]) fun _ _ _ _ _ _ us hl => match us, hl with | [_, _], _ => rfl
  have D_l_draw : Fn K mg "_law_draw" st_l_draw ["_law_deal_here", "_law_many"] _ _ := ⟨PySem.W.mg_of X G a4, k4, F4, b4⟩
  have F5 := fun_mk (st := st_l_kept) l5 c5 k5
  have b5 := F5.binds (ps := []) fun _ _ _ _ _ _ us hl => match us, hl with | [], _ => rfl
  have D_l_kept : Fn K mg "_law_kept" st_l_kept [] _ _ := ⟨PySem.W.mg_of X G a5, k5, F5, b5⟩
  have F6 := fun_mk (st := st_l_some) l6 c6 k6
  have b6 := F6.binds (ps := ["_law_deal_here"]) fun _ _ _ _ _ _ us hl => match us, hl with | [_], _ => rfl
  have D_l_some : Fn K mg "_law_some" st_l_some ["_law_deal_here"] _ _ := ⟨PySem.W.mg_of X G a6, k6, F6, b6⟩
  have F7 := fun_mk (st := st_l_is_name) l7 c7 k7
  have b7 := F7.binds (ps := ["_law_text"]) fun _ _ _ _ _ _ us hl => match us, hl with | [_], _ => rfl
  have D_l_is_name : Fn K mg "_law_is_name" st_l_is_name ["_law_text"] _ _ := ⟨PySem.W.mg_of X G a7, k7, F7, b7⟩
  have F8 := fun_mk (st := st_l_is_number) l8 c8 k8
  have b8 := F8.binds (ps := ["_law_text"]) fun _ _ _ _ _ _ us hl => match us, hl with | [_], _ => rfl
  have D_l_is_number : Fn K mg "_law_is_number" st_l_is_number ["_law_text"] _ _ := ⟨PySem.W.mg_of X G a8, k8, F8, b8⟩
  have F9 := fun_mk (st := st_l_right) l9 c9 k9
  have b9 := F9.binds (ps := ["_law_text"]) fun _ _ _ _ _ _ us hl => match us, hl with | [_], _ => rfl
  have D_l_right : Fn K mg "_law_right" st_l_right ["_law_text"] _ _ := ⟨PySem.W.mg_of X G a9, k9, F9, b9⟩
  have F10 := fun_mk (st := st_law) l10 c10 k10
  have b10 := F10.binds (ps := ["_law_script"]) fun _ _ _ _ _ _ us hl => match us, hl with | [_], _ => rfl
  have D_law : Fn K mg "law" st_law ["_law_script"] _ _ := ⟨PySem.W.mg_of X G a10, k10, F10, b10⟩
  have T' : BltD mg := ⟨m_len, m_list, m_reversed, m_max⟩
  have T : Blt K mg aN t1 t2 := ⟨m_len, m_all, m_int, m_bool, m_range, m_isinstance, PySem.W.mg_of X G x1, PySem.W.mg_of X G x2, PySem.W.mg_of X G x3, fun H => .inr ⟨_, usN, nN, x4, rfl, rfl, x5, x6⟩⟩
  exact ⟨PySem.W.fnOf "law" "law" (defArgs st_law) (defBody st_law) (defScope st_law) .none kV10 dc10 pm10 an10 cd10 ct10, fun s v => .of_eq rfl, fun base _ _ => ok_law D_law T T' D_only_of D_is_name D_is_figures D_l_deal D_l_draw D_l_kept D_l_some D_l_is_name D_l_is_number D_l_right⟩
theorem walk {l : PySem.W.OpenLaw} {q : Program} {loose : List Str} {XP : (Str → Option Value) → Heap → Prop} {YP : World → Heap → Prop} {d : DefRec} {K : Params → PySem.W.Frag} (hn : l.most = some 63) (hdf : d.params.defaults = [])
    (hY : ∀ (w : World) (h : Heap), YP w h → (K w.params).In h)
    (F : ∀ (w : World) (mg : Str → Option Value) (fa : Addr) (h : Heap), (K w.params).In h → h.Ns mainGlobals mg → mg d.name = some (.ref fa) →
      ∃ fd : FuncData, (∀ (s : Shared) (u : Value), BindsTo s fd ⟨[u], []⟩ [("_law_script", u)]) ∧ ∀ base : Heap, (K w.params).In base → base.Ns mainGlobals mg → FnOk l.prog w (K w.params) mg base CX0 4 fa fd ["_law_script"] (spLaw (K w.params))) :
    PySem.W.WalkO q loose XP YP l.row.toRowW d [] (fun f vs => PySem.call f vs) :=
  L2.walk_of (n := 63) (k := 4) (x := "_law_script") (CX := fun _ => CX0) (sp := fun w => spLaw (K w.params)) hn (by decide) hdf ⟨rfl, by decide, by decide⟩ hY F (fun _ _ a ns hl _ hS => ⟨a, ns, rfl, hS, hl, fun _ => rfl⟩) fun _ _ _ _ _ z => z
end Ak
open PySem PySem.W PyProof.Rows
set_option maxRecDepth 100000 in
set_option maxHeartbeats 0 in
theorem PySem.Challenge.cw_askladder_k02_names_and_figures_holds : PySem.Challenge.rw_askladder_k02_names_and_figures.Holds := by
  w_on; o_law; k_head; (case hw => w_witness2)
  k_fill
  refine Ak.walk (l := PySem.Challenge.rw_askladder_k02_names_and_figures) rfl rfl (fun w h Y => PySem.W.kIn_of Y) ?F
  case F =>
    intro w mg fa h KX G hmg
    refine' Ak.all_mk KX G hmg ?a0 ?l0 ?c0 ?k0 ?a1 ?l1 ?c1 ?k1 ?a2 ?l2 ?c2 ?k2 ?a3 ?l3 ?c3 ?k3 ?a4 ?l4 ?c4 ?k4 ?a5 ?l5 ?c5 ?k5 ?a6 ?l6 ?c6 ?k6 ?a7 ?l7 ?c7 ?k7 ?a8 ?l8 ?c8 ?k8 ?a9 ?l9 ?c9 ?k9 ?a10 ?l10 ?c10 ?k10 ?z_len ?z_list ?z_reversed ?z_max ?z_all ?z_int ?z_bool ?z_range ?z_isinstance ?x1 ?x2 ?x3 ?x4 ?x5 ?x6
    (case a0 => k_is)
    (case l0 => k_is)
    (case c0 => k_is)
    (case k0 => k_is)
    (case a1 => k_is)
    (case l1 => k_is)
    (case c1 => k_is)
    (case k1 => k_is)
    (case a2 => k_is)
    (case l2 => k_is)
    (case c2 => k_is)
    (case k2 => k_is)
    (case a3 => k_is)
    (case l3 => k_is)
    (case c3 => k_is)
    (case k3 => k_is)
    (case a4 => k_is)
    (case l4 => k_is)
    (case c4 => k_is)
    (case k4 => k_is)
    (case a5 => k_is)
    (case l5 => k_is)
    (case c5 => k_is)
    (case k5 => k_is)
    (case a6 => k_is)
    (case l6 => k_is)
    (case c6 => k_is)
    (case k6 => k_is)
    (case a7 => k_is)
    (case l7 => k_is)
    (case c7 => k_is)
    (case k7 => k_is)
    (case a8 => k_is)
    (case l8 => k_is)
    (case c8 => k_is)
    (case k8 => k_is)
    (case a9 => k_is)
    (case l9 => k_is)
    (case c9 => k_is)
    (case k9 => k_is)
    (case a10 => k_is)
    (case l10 => k_is)
    (case c10 => k_is)
    (case k10 => k_is)
    (case z_len => k_is)
    (case z_list => k_is)
    (case z_reversed => k_is)
    (case z_max => k_is)
    (case z_all => k_is)
    (case z_int => k_is)
    (case z_bool => k_is)
    (case z_range => k_is)
    (case z_isinstance => k_is)
    (case x1 => k_is)
    (case x2 => k_is)
    (case x3 => k_is)
    (case x4 => k_is)
    (case x5 => (show 28 ≤ sizeLine; decide))
    (case x6 => (repeat (first | exact .nil | refine .cons ⟨_, rfl⟩ ?_)))
#print axioms PySem.Challenge.cw_askladder_k02_names_and_figures_holds
