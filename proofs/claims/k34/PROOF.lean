import PyProof.Rows.All
import Wide.All
import OpenK.AllK
import Wide.FinOn
import HandS.Base
import HandS.Call
import HandS.List
import HandS.Comp
import HandS.Ends
import HandS.Words
import HandS.WordsList
import HandS.Property
import HandS.IsInst
import HandS.TupSets
import HandS.Conv
import HandS.TupAny
import HandS.Wide
import HandS.Iter
import HandS.Zip
import HandS.Deep
import HandS.Codes
import KE.GoesEnum
import HandS.Dict
import HandS.DictComp
import HandS.DictTup
import KE.KDictPairs
import KE.KDictCopyH
import HandS.NoneIn
import HandS.Style
import HandS.OwnEq
import HandS.OwnIter
import HandS.IterVal
import HandS.DictSub
import KE.KEqDict
import PyProof.WalkInts
import HandS.Flow
import HandS.Star
import KE.KUnpackStar
import KE.DataCmp
import HandS.Text
import HandS.FStr
import HandS.More
import KE.GoesMore
import KE.IntBitsLaws
import KE.KStateDown
import HandS.WordsExc
import HandS.Defaults
import HandS.Head0
import HandS.Head1
import HandS.Head2
import HandS.HeadEnd
import HandS.HeadHook1
import HandS.HeadHook2
import HandS.HeadNt
import HandS.HeadHook3
import HandS.EndBits
import PySem.Challenge.RW_coolway_k34_whole_texts
section
set_option Elab.async false
set_option linter.all false
set_option maxRecDepth 100000
/-! The data layer: what a def of the program does, said of plain data; the heap is kept out of sight. -/
namespace DL
open PySem PySem.Spec PyProof.Rows L2

/-! ### data -/
/-- ints as a key -/
def ik (ns : List Int) : List L2.Key := ns.map Sum.inl
inductive D where
  | non | bl (b : Bool) | int (i : Int) | str (x : Str) | lst (ds : List D) | tup (ds : List D) | obj (C : Addr) (fs : List (Str × D)) | ctp (ds : List D) | dic (kvs : List (List Int × D)) | rls (ds : List D)
mutual
/-- v, read in the heap B, is the data d -/
inductive Rep (K : PySem.W.Frag) (B : Hp) : V → D → Prop
  | non : Rep K B .non .non
  | bl (b : Bool) : Rep K B (.bl b) (.bl b)
  | int (i : Int) : Rep K B (.int i) (.int i)
  | str (x : Str) : Rep K B (.str x) (.str x)
  | lst {a : Addr} {xs : List V} {ds : List D} : SqL K B a xs → RepAll K B xs ds → Rep K B (.ref a) (.lst ds)
  | tup {a : Addr} {xs : List V} {ds : List D} : B a = some (.tup xs) → RepAll K B xs ds → Rep K B (.ref a) (.tup ds)
  /-- a tuple of the written part -/
  | ctp {a : Addr} {xs : List V} {ds : List D} : SqT K B a xs → RepAll K B xs ds → Rep K B (.ref a) (.ctp ds)
  /-- a dict with tuples as keys, locked or not -/
  | dic {a : Addr} {kvs : List (List L2.Key × V)} {ds : List (List Int × D)} : Rd B a (.dT kvs) → RepKv K B kvs ds → Rep K B (.ref a) (.dic ds)
  /-- a list that lies in the heap as it was made -/
  | rls {a : Addr} {xs : List V} {ds : List D} : B a = some (.lst xs) → RepAll K B xs ds → Rep K B (.ref a) (.rls ds)
  | obj {a C dx : Addr} {fs : List (Str × V)} {gs : List (Str × D)} : B a = some (.ins C dx fs) → RepFs K B fs gs → Rep K B (.ref a) (.obj C gs)
inductive RepAll (K : PySem.W.Frag) (B : Hp) : List V → List D → Prop
  | nil : RepAll K B [] []
  | cons {v : V} {vs : List V} {d : D} {ds : List D} : Rep K B v d → RepAll K B vs ds → RepAll K B (v :: vs) (d :: ds)
inductive RepFs (K : PySem.W.Frag) (B : Hp) : List (Str × V) → List (Str × D) → Prop
  | nil : RepFs K B [] []
  | cons {f : Str} {v : V} {vs : List (Str × V)} {d : D} {ds : List (Str × D)} : Rep K B v d → RepFs K B vs ds → RepFs K B ((f, v) :: vs) ((f, d) :: ds)
inductive RepKv (K : PySem.W.Frag) (B : Hp) : List (List L2.Key × V) → List (List Int × D) → Prop
  | nil : RepKv K B [] []
  | cons {f : List Int} {v : V} {vs : List (List L2.Key × V)} {d : D} {ds : List (List Int × D)} : Rep K B v d → RepKv K B vs ds → RepKv K B ((ik f, v) :: vs) ((f, d) :: ds)
end
theorem sameRd {H H' : Hp} {a : Addr} {u : HO} (e : Same H H') (h : Rd H a u) : Rd H' a u := by
  rcases h with h | ⟨o, h⟩
  · exact .inl (e _ _ h)
  · exact .inr ⟨o, e _ _ h⟩
theorem sameT {K : PySem.W.Frag} {H H' : Hp} {a : Addr} {xs : List V} (e : Same H H') (h : SqT K H a xs) : SqT K H' a xs := by
  rcases h with (h | ⟨o, h⟩) | h
  · exact .inl (.inl (e _ _ h))
  · exact .inl (.inr ⟨o, e _ _ h⟩)
  · exact .inr h
section
variable {K : PySem.W.Frag} {B B' : Hp}
mutual
theorem Rep.mono (e : Same B B') : ∀ (d : D) {v : V}, Rep K B v d → Rep K B' v d
  | .non, _, h => by cases h; exact .non
  | .bl b, _, h => by cases h; exact .bl b
  | .int i, _, h => by cases h; exact .int i
  | .str x, _, h => by cases h; exact .str x
  | .lst ds, _, h => by
    cases h with
    | lst s r => exact .lst (e.seq s) (RepAll.mono e ds r)
  | .tup ds, _, h => by
    cases h with
    | tup s r => exact .tup (e _ _ s) (RepAll.mono e ds r)
  | .ctp ds, _, h => by
    cases h with
    | ctp s r => exact .ctp (sameT e s) (RepAll.mono e ds r)
  | .dic ds, _, h => by
    cases h with
    | dic s r => exact .dic (sameRd e s) (RepKv.mono e ds r)
  | .rls ds, _, h => by
    cases h with
    | rls s r => exact .rls (e _ _ s) (RepAll.mono e ds r)
  | .obj C gs, _, h => by
    cases h with
    | obj s r => exact .obj (e _ _ s) (RepFs.mono e gs r)
theorem RepAll.mono (e : Same B B') : ∀ (ds : List D) {vs : List V}, RepAll K B vs ds → RepAll K B' vs ds
  | [], _, h => by cases h; exact .nil
  | d :: ds, _, h => by
    cases h with
    | cons h1 h2 => exact .cons (Rep.mono e d h1) (RepAll.mono e ds h2)
theorem RepFs.mono (e : Same B B') : ∀ (ds : List (Str × D)) {vs : List (Str × V)}, RepFs K B vs ds → RepFs K B' vs ds
  | [], _, h => by cases h; exact .nil
  | (f, d) :: ds, _, h => by
    cases h with
    | cons h1 h2 => exact .cons (Rep.mono e d h1) (RepFs.mono e ds h2)
theorem RepKv.mono (e : Same B B') : ∀ (ds : List (List Int × D)) {vs : List (List L2.Key × V)}, RepKv K B vs ds → RepKv K B' vs ds
  | [], _, h => by cases h; exact .nil
  | (f, d) :: ds, _, h => by
    cases h with
    | cons h1 h2 => exact .cons (Rep.mono e d h1) (RepKv.mono e ds h2)
end
theorem RepAll.len : ∀ {ds : List D} {vs : List V}, RepAll K B vs ds → vs.length = ds.length
  | [], _, h => by cases h; rfl
  | d :: ds, _, h => by
    cases h with
    | cons h1 h2 => rw [List.length_cons, List.length_cons, RepAll.len h2]
theorem RepAll.get : ∀ {ds : List D} {vs : List V} {i : Nat} {d : D}, RepAll K B vs ds → ds[i]? = some d → ∃ v, vs[i]? = some v ∧ Rep K B v d
  | [], _, _, _, _, e => by simp at e
  | d :: ds, _, 0, x, h, e => by
    cases h with
    | cons h1 h2 =>
      rename_i v vs
      have e' : d = x := Option.some.inj e
      exact ⟨v, rfl, e' ▸ h1⟩
  | d :: ds, _, i + 1, x, h, e => by
    cases h with
    | cons h1 h2 =>
      obtain ⟨v, a, b⟩ := RepAll.get (i := i) h2 (by simpa using e)
      exact ⟨v, by simpa using a, b⟩
theorem RepAll.get' : ∀ {ds : List D} {vs : List V} {i : Nat} {v : V}, RepAll K B vs ds → vs[i]? = some v → ∃ d, ds[i]? = some d ∧ Rep K B v d
  | [], _, _, _, h, e => by cases h; simp at e
  | d :: ds, _, 0, x, h, e => by
    cases h with
    | cons h1 h2 =>
      rename_i v vs
      have e' : v = x := Option.some.inj e
      exact ⟨d, rfl, e' ▸ h1⟩
  | d :: ds, _, i + 1, x, h, e => by
    cases h with
    | cons h1 h2 =>
      obtain ⟨v, a, b⟩ := RepAll.get' (i := i) h2 (by simpa using e)
      exact ⟨v, by simpa using a, b⟩
theorem RepAll.append : ∀ {ds es : List D} {vs us : List V}, RepAll K B vs ds → RepAll K B us es → RepAll K B (vs ++ us) (ds ++ es)
  | [], _, _, _, h, g => by cases h; exact g
  | d :: ds, _, _, _, h, g => by
    cases h with
    | cons h1 h2 => exact .cons h1 (RepAll.append h2 g)
theorem RepAll.drop : ∀ (n : Nat) {ds : List D} {vs : List V}, RepAll K B vs ds → RepAll K B (vs.drop n) (ds.drop n)
  | 0, _, _, h => h
  | n + 1, [], _, h => by cases h; exact .nil
  | n + 1, d :: ds, _, h => by
    cases h with
    | cons h1 h2 => exact RepAll.drop n h2
theorem RepAll.take : ∀ (n : Nat) {ds : List D} {vs : List V}, RepAll K B vs ds → RepAll K B (vs.take n) (ds.take n)
  | 0, _, _, h => .nil
  | n + 1, [], _, h => by cases h; exact .nil
  | n + 1, d :: ds, _, h => by
    cases h with
    | cons h1 h2 => exact .cons h1 (RepAll.take n h2)
theorem RepAll.set {v : V} {d : D} (r : Rep K B v d) : ∀ (n : Nat) {ds : List D} {vs : List V}, RepAll K B vs ds → RepAll K B (vs.set n v) (ds.set n d)
  | _, [], _, h => by cases h; exact .nil
  | 0, d :: ds, _, h => by
    cases h with
    | cons h1 h2 => exact .cons r h2
  | n + 1, d :: ds, _, h => by
    cases h with
    | cons h1 h2 => exact .cons h1 (RepAll.set r n h2)
theorem RepAll.ints : ∀ {ns : List Int} {vs : List V}, RepAll K B vs (ns.map D.int) → vs = ns.map V.int
  | [], _, h => by cases h; rfl
  | n :: ns, _, h => by
    cases h with
    | cons h1 h2 =>
      cases h1
      rw [RepAll.ints h2]
      rfl
theorem RepAll.ofInts : ∀ (ns : List Int), RepAll K B (ns.map V.int) (ns.map D.int)
  | [] => .nil
  | n :: ns => .cons (.int n) (RepAll.ofInts ns)
theorem RepAll.bls : ∀ {ns : List Bool} {vs : List V}, RepAll K B vs (ns.map D.bl) → vs = ns.map V.bl
  | [], _, h => by cases h; rfl
  | n :: ns, _, h => by
    cases h with
    | cons h1 h2 =>
      cases h1
      rw [RepAll.bls h2]
      rfl
theorem RepFs.look : ∀ {gs : List (Str × D)} {fs : List (Str × V)} {f : Str} {d : D}, RepFs K B fs gs → gs.lookup f = some d → ∃ v, fs.lookup f = some v ∧ Rep K B v d
  | [], _, _, _, h, e => by simp at e
  | (g, x) :: gs, _, f, d, h, e => by
    cases h with
    | cons h1 h2 =>
      rename_i v vs
      rw [List.lookup_cons] at e
      rw [List.lookup_cons]
      cases q : f == g with
      | true =>
        rw [q] at e
        have e' : x = d := Option.some.inj e
        exact ⟨v, rfl, e' ▸ h1⟩
      | false =>
        rw [q] at e
        exact RepFs.look h2 e
theorem RepFs.len : ∀ {gs : List (Str × D)} {fs : List (Str × V)}, RepFs K B fs gs → fs.length = gs.length
  | [], _, h => by cases h; rfl
  | (g, x) :: gs, _, h => by
    cases h with
    | cons h1 h2 => rw [List.length_cons, List.length_cons, RepFs.len h2]
/-- data's store to a field -/
def putD (f : Str) (d : D) : List (Str × D) → List (Str × D)
  | [] => [(f, d)]
  | (g, x) :: gs => if g = f then (g, d) :: gs else (g, x) :: putD f d gs
end

/-! ### the situation: slots, own objects -/
inductive Vl where
  | dat (d : D) | own (n : Nat) | tl (ds : List D) | lk (ds : List (List Int × D))
/-- what an own object (one that may still change) holds; gone: nothing is said of it any more -/
inductive Mc where
  | gone | lst (ds : List D) | obj (C : Addr) (fs : List (Str × D)) | dic (ds : List (List Int × D))
abbrev Sl := List (Option Vl)
def VlOk (K : PySem.W.Frag) (B : Hp) (al : List Addr) (v : V) : Vl → Prop
  | .dat d => Rep K B v d
  | .own n => ∃ a, al[n]? = some a ∧ v = .ref a
  | .tl ds => ∃ a xs, v = .ref a ∧ B a = some (.lst xs) ∧ RepAll K B xs ds
  | .lk ds => ∃ a o kvs, v = .ref a ∧ B a = some (.frz o (.dT kvs)) ∧ RepKv K B kvs ds
def McOk (K : PySem.W.Frag) (B H : Hp) (a : Addr) : Mc → Prop
  | .gone => True
  | .lst ds => B a = none ∧ ∃ xs, H a = some (.lst xs) ∧ RepAll K B xs ds
  | .obj C fs => B a = none ∧ ∃ dx fv, H a = some (.ins C dx fv) ∧ RepFs K B fv fs
  | .dic ds => B a = none ∧ ∃ kvs, H a = some (.dT kvs) ∧ RepKv K B kvs ds
structure Sit (K : PySem.W.Frag) (B H : Hp) (al : List Addr) (σ : L2.St) (ss : Sl) (mem : List Mc) : Prop where
  sub : Same B H
  len : σ.length = ss.length
  slot : ∀ (i : Nat) (r : Vl), ss[i]? = some (some r) → ∃ v : V, σ[i]? = some (some v) ∧ VlOk K B al v r
  mlen : al.length = mem.length
  mem : ∀ (n : Nat) (a : Addr) (m : Mc), al[n]? = some a → mem[n]? = some m → McOk K B H a m
  nd : al.Nodup
  there : ∀ a ∈ al, H a ≠ none
structure Stp (B H : Hp) (al : List Addr) (B' H' : Hp) (al' : List Addr) : Prop where
  same : Same B B'
  frame : ∀ b o, H b = some o → b ∉ al → H' b = some o
  fresh : ∀ b, B' b ≠ none → B b ≠ none ∨ H b = none ∨ b ∈ al ∨ ∃ xs, H b = some (.tup xs)
  stay : ∀ b, H b ≠ none → H' b ≠ none
  ext : ∃ ex, al' = al ++ ex ∧ ∀ a ∈ ex, H a = none
theorem Stp.refl (B H : Hp) (al : List Addr) : Stp B H al B H al :=
  ⟨Same.refl B, fun _ _ h _ => h, fun _ h => .inl h, fun _ h => h, [], by rw [List.append_nil], fun _ h => by cases h⟩
theorem Stp.trans {B H B1 H1 B2 H2 : Hp} {al al1 al2 : List Addr} (a : Stp B H al B1 H1 al1) (b : Stp B1 H1 al1 B2 H2 al2) : Stp B H al B2 H2 al2 := by
  obtain ⟨e1, q1, n1⟩ := a.ext
  obtain ⟨e2, q2, n2⟩ := b.ext
  have back : ∀ c, H1 c = none → H c = none := fun c h => by
    cases q : H c with
    | none => rfl
    | some o => exact absurd h (a.stay c (by rw [q]; exact fun z => nomatch z))
  refine ⟨a.same.trans b.same, fun c o h hn => b.frame c o (a.frame c o h hn) ?_, fun c h => ?_, fun c h => b.stay c (a.stay c h), e1 ++ e2, by rw [q2, q1, List.append_assoc], fun c h => ?_⟩
  · rw [q1]
    intro z
    rcases List.mem_append.mp z with z | z
    · exact hn z
    · rw [n1 c z] at h
      cases h
  · rcases b.fresh c h with z | z | z | ⟨xs, z⟩
    · exact a.fresh c z
    · exact .inr (.inl (back c z))
    · rw [q1] at z
      rcases List.mem_append.mp z with z | z
      · exact .inr (.inr (.inl z))
      · exact .inr (.inl (n1 c z))
    · rcases Option.eq_none_or_eq_some (H c) with q | ⟨o, q⟩
      · exact .inr (.inl q)
      · by_cases hc : c ∈ al
        · exact .inr (.inr (.inl hc))
        · have e := a.frame c o q hc
          rw [z] at e
          cases e
          exact .inr (.inr (.inr ⟨xs, q⟩))
  · rcases List.mem_append.mp h with z | z
    · exact n1 c z
    · exact back c (n2 c z)
theorem Stp.back {B H B1 H1 : Hp} {al al1 : List Addr} (a : Stp B H al B1 H1 al1) {c : Addr} (h : H1 c = none) : H c = none := by
  cases q : H c with
  | none => rfl
  | some o => exact absurd h (a.stay c (by rw [q]; exact fun z => nomatch z))
theorem Stp.get {B H B1 H1 : Hp} {al al1 : List Addr} (a : Stp B H al B1 H1 al1) {n : Nat} {x : Addr} (h : al[n]? = some x) : al1[n]? = some x := by
  obtain ⟨e1, q1, n1⟩ := a.ext
  obtain ⟨h1, h2⟩ := List.getElem?_eq_some_iff.mp h
  rw [q1, List.getElem?_append_left h1]
  exact h
section
variable {K : PySem.W.Frag} {B H B' H' : Hp} {al al' : List Addr} {σ : L2.St} {ss : Sl} {mem : List Mc}
theorem VlOk.step (a : Stp B H al B' H' al') {v : V} : ∀ {r : Vl}, VlOk K B al v r → VlOk K B' al' v r
  | .dat d, h => Rep.mono a.same d h
  | .own n, ⟨x, h1, h2⟩ => ⟨x, a.get h1, h2⟩
  | .tl ds, ⟨x, xs, h1, h2, h3⟩ => ⟨x, xs, h1, a.same _ _ h2, RepAll.mono a.same ds h3⟩
  | .lk ds, ⟨x, o, xs, h1, h2, h3⟩ => ⟨x, o, xs, h1, a.same _ _ h2, RepKv.mono a.same ds h3⟩
def VlsOk (K : PySem.W.Frag) (B : Hp) (al : List Addr) : List V → List Vl → Prop
  | [], [] => True
  | v :: vs, r :: rs => VlOk K B al v r ∧ VlsOk K B al vs rs
  | _, _ => False
theorem VlsOk.step (a : Stp B H al B' H' al') : ∀ {vs : List V} {rs : List Vl}, VlsOk K B al vs rs → VlsOk K B' al' vs rs
  | [], [], _ => trivial
  | _ :: _, _ :: _, ⟨h1, h2⟩ => ⟨h1.step a, VlsOk.step a h2⟩
theorem VlsOk.dats : ∀ {vs : List V} {ds : List D}, VlsOk K B al vs (ds.map Vl.dat) → RepAll K B vs ds
  | [], [], _ => .nil
  | _ :: _, _ :: _, ⟨h1, h2⟩ => .cons h1 (VlsOk.dats h2)
theorem VlsOk.len : ∀ {vs : List V} {rs : List Vl}, VlsOk K B al vs rs → vs.length = rs.length
  | [], [], _ => rfl
  | _ :: vs, _ :: rs, ⟨h1, h2⟩ => by rw [List.length_cons, List.length_cons, VlsOk.len h2]
/-- a new object is laid, tracked, as data at once -/
theorem Sit.lay (S : Sit K B H al σ ss mem) {p : Addr} {o : HO} (np : H p = none) : Stp B H al (upd B p o) (upd H p o) al ∧ Sit K (upd B p o) (upd H p o) al σ ss mem := by
  have nb : B p = none := S.sub.free np
  have sB : Same B (upd B p o) := fun b u e => by rw [upd_ne (ne_of_none e nb)]; exact e
  have sH : Same H (upd H p o) := fun b u e => by rw [upd_ne (ne_of_none e np)]; exact e
  have hn : ∀ b, H b ≠ none → b ≠ p := fun b h e => h (e ▸ np)
  have P : Stp B H al (upd B p o) (upd H p o) al := by
    refine ⟨sB, fun b u e _ => sH b u e, fun b h => ?_, fun b h => ?_, [], by rw [List.append_nil], fun _ h => by cases h⟩
    · by_cases e : b = p
      · exact .inr (.inl (e ▸ np))
      · rw [upd_ne e] at h
        exact .inl h
    · rw [upd_ne (hn b h)]
      exact h
  refine ⟨P, fun b u e => ?_, S.len, fun i r e => ?_, S.mlen, fun n a m h1 h2 => ?_, S.nd, fun a h => P.stay a (S.there a h)⟩
  · by_cases q : b = p
    · subst q
      rw [upd_same] at e ⊢
      exact e
    · rw [upd_ne q] at e ⊢
      exact S.sub b u e
  · obtain ⟨v, h1, h2⟩ := S.slot i r e
    exact ⟨v, h1, h2.step P⟩
  · have q := S.mem n a m h1 h2
    have ha : a ≠ p := hn a (S.there a (List.mem_of_getElem? h1))
    cases m with
    | gone => trivial
    | lst ds =>
      obtain ⟨b0, xs, h3, h4⟩ := q
      exact ⟨by rw [upd_ne ha]; exact b0, xs, sH _ _ h3, RepAll.mono sB ds h4⟩
    | obj C fs =>
      obtain ⟨b0, dx, fv, h3, h4⟩ := q
      exact ⟨by rw [upd_ne ha]; exact b0, dx, fv, sH _ _ h3, RepFs.mono sB fs h4⟩
    | dic ds =>
      obtain ⟨b0, kv, h3, h4⟩ := q
      exact ⟨by rw [upd_ne ha]; exact b0, kv, sH _ _ h3, RepKv.mono sB ds h4⟩
/-- a new object is laid, tracked, as an own one -/
theorem Sit.layOwn (S : Sit K B H al σ ss mem) {p : Addr} {o : HO} {m : Mc} (np : H p = none) (hm : McOk K B (upd H p o) p m) : Stp B H al B (upd H p o) (al ++ [p]) ∧ Sit K B (upd H p o) (al ++ [p]) σ ss (mem ++ [m]) := by
  have nb : B p = none := S.sub.free np
  have sH : Same H (upd H p o) := fun b u e => by rw [upd_ne (ne_of_none e np)]; exact e
  have hn : ∀ b, H b ≠ none → b ≠ p := fun b h e => h (e ▸ np)
  have P : Stp B H al B (upd H p o) (al ++ [p]) := by
    refine ⟨Same.refl B, fun b u e _ => sH b u e, fun b h => .inl h, fun b h => ?_, [p], rfl, fun a h => ?_⟩
    · rw [upd_ne (hn b h)]
      exact h
    · rw [List.mem_singleton] at h
      exact h ▸ np
  have nal : p ∉ al := fun h => S.there p h np
  refine ⟨P, fun b u e => sH b u (S.sub b u e), S.len, fun i r e => ?_, by rw [List.length_append, List.length_append, S.mlen]; rfl, fun n a m' h1 h2 => ?_, ?_, fun a h => ?_⟩
  · obtain ⟨v, h1, h2⟩ := S.slot i r e
    exact ⟨v, h1, h2.step P⟩
  · by_cases hlt : n < al.length
    · rw [List.getElem?_append_left hlt] at h1
      rw [List.getElem?_append_left (S.mlen ▸ hlt)] at h2
      have q := S.mem n a m' h1 h2
      cases m' with
      | gone => trivial
      | lst ds =>
        obtain ⟨b0, xs, h3, h4⟩ := q
        exact ⟨b0, xs, sH _ _ h3, h4⟩
      | obj C fs =>
        obtain ⟨b0, dx, fv, h3, h4⟩ := q
        exact ⟨b0, dx, fv, sH _ _ h3, h4⟩
      | dic ds =>
        obtain ⟨b0, kv, h3, h4⟩ := q
        exact ⟨b0, kv, sH _ _ h3, h4⟩
    · have l1 : n < (al ++ [p]).length := (List.getElem?_eq_some_iff.mp h1).1
      rw [List.length_append, List.length_singleton] at l1
      have en : n = al.length := by omega
      subst en
      rw [List.getElem?_append_right (Nat.le_refl _), Nat.sub_self] at h1
      rw [List.getElem?_append_right (by rw [S.mlen]; exact Nat.le_refl _), S.mlen, Nat.sub_self] at h2
      have e1 : p = a := Option.some.inj h1
      have e2 : m = m' := Option.some.inj h2
      exact e1 ▸ e2 ▸ hm
  · rw [List.nodup_append]
    refine ⟨S.nd, List.Pairwise.cons (fun _ z => by cases z) .nil, fun a h b h2 e => ?_⟩
    rw [List.mem_singleton] at h2
    exact nal (h2 ▸ e ▸ h)
  · rcases List.mem_append.mp h with h | h
    · exact P.stay a (S.there a h)
    · rw [List.mem_singleton] at h
      rw [h, upd_same]
      exact fun z => nomatch z
/-- an own object is changed -/
theorem Sit.write (S : Sit K B H al σ ss mem) {n : Nat} {a : Addr} {o : HO} {m : Mc} (hn : al[n]? = some a) (hb : B a = none) (hm : McOk K B (upd H a o) a m) : Stp B H al B (upd H a o) al ∧ Sit K B (upd H a o) al σ ss (mem.set n m) := by
  have ha : a ∈ al := List.mem_of_getElem? hn
  have P : Stp B H al B (upd H a o) al := by
    refine ⟨Same.refl B, fun b u e z => ?_, fun b h => .inl h, fun b h => ?_, [], by rw [List.append_nil], fun _ h => by cases h⟩
    · rw [upd_ne (fun (q : b = a) => z (by rw [q]; exact ha))]
      exact e
    · by_cases e : b = a
      · rw [e, upd_same]
        exact fun z => nomatch z
      · rw [upd_ne e]
        exact h
  refine ⟨P, fun b u e => ?_, S.len, S.slot, by rw [List.length_set]; exact S.mlen, fun n' a' m' h1 h2 => ?_, S.nd, fun a' h => P.stay a' (S.there a' h)⟩
  · rw [upd_ne (ne_of_none e hb)]
    exact S.sub b u e
  · by_cases e : n' = n
    · subst e
      have ea : a' = a := Option.some.inj (h1.symm.trans hn)
      have hl : n' < mem.length := by
        have := (List.getElem?_eq_some_iff.mp h2).1
        rwa [List.length_set] at this
      rw [List.getElem?_set_self hl] at h2
      have em : m = m' := Option.some.inj h2
      rw [ea, ← em]
      exact hm
    · rw [List.getElem?_set_ne (Ne.symm e)] at h2
      have q := S.mem n' a' m' h1 h2
      have na : a' ≠ a := fun z => e (nd_ix S.nd h1 (z ▸ hn))
      cases m' with
      | gone => trivial
      | lst ds =>
        obtain ⟨b0, xs, h3, h4⟩ := q
        exact ⟨b0, xs, by rw [upd_ne na]; exact h3, h4⟩
      | obj C fs =>
        obtain ⟨b0, dx, fv, h3, h4⟩ := q
        exact ⟨b0, dx, fv, by rw [upd_ne na]; exact h3, h4⟩
      | dic ds =>
        obtain ⟨b0, kv, h3, h4⟩ := q
        exact ⟨b0, kv, by rw [upd_ne na]; exact h3, h4⟩
/-- an own object becomes data -/
theorem Sit.freeze (S : Sit K B H al σ ss mem) {n : Nat} {a : Addr} {o : HO} (hn : al[n]? = some a) (hb : B a = none) (ho : H a = some o) : Stp B H al (upd B a o) H al ∧ Sit K (upd B a o) H al σ ss (mem.set n .gone) := by
  have ha : a ∈ al := List.mem_of_getElem? hn
  have sB : Same B (upd B a o) := fun b u e => by rw [upd_ne (ne_of_none e hb)]; exact e
  have P : Stp B H al (upd B a o) H al := by
    refine ⟨sB, fun b u e z => e, fun b h => ?_, fun b h => h, [], by rw [List.append_nil], fun _ h => by cases h⟩
    by_cases e : b = a
    · exact .inr (.inr (.inl (e ▸ ha)))
    · rw [upd_ne e] at h
      exact .inl h
  refine ⟨P, fun b u e => ?_, S.len, fun i r e => ?_, by rw [List.length_set]; exact S.mlen, fun n' a' m' h1 h2 => ?_, S.nd, S.there⟩
  · by_cases q : b = a
    · subst q
      rw [upd_same] at e
      exact ho.trans e
    · rw [upd_ne q] at e
      exact S.sub b u e
  · obtain ⟨v, h1, h2⟩ := S.slot i r e
    exact ⟨v, h1, h2.step P⟩
  · by_cases e : n' = n
    · subst e
      have hl : n' < mem.length := by
        have := (List.getElem?_eq_some_iff.mp h2).1
        rwa [List.length_set] at this
      rw [List.getElem?_set_self hl] at h2
      have em : Mc.gone = m' := Option.some.inj h2
      exact em ▸ trivial
    · rw [List.getElem?_set_ne (Ne.symm e)] at h2
      have q := S.mem n' a' m' h1 h2
      have na : a' ≠ a := fun z => e (nd_ix S.nd h1 (z ▸ hn))
      cases m' with
      | gone => trivial
      | lst ds =>
        obtain ⟨b0, xs, h3, h4⟩ := q
        exact ⟨by rw [upd_ne na]; exact b0, xs, h3, RepAll.mono sB ds h4⟩
      | obj C fs =>
        obtain ⟨b0, dx, fv, h3, h4⟩ := q
        exact ⟨by rw [upd_ne na]; exact b0, dx, fv, h3, RepFs.mono sB fs h4⟩
      | dic ds =>
        obtain ⟨b0, kv, h3, h4⟩ := q
        exact ⟨by rw [upd_ne na]; exact b0, kv, h3, RepKv.mono sB ds h4⟩
/-- a slot is set -/
theorem Sit.put (S : Sit K B H al σ ss mem) {i : Nat} {v : V} {r : Option Vl} (hv : ∀ q, r = some q → VlOk K B al v q) : Sit K B H al (σ.set i (some v)) (ss.set i r) mem := by
  refine ⟨S.sub, by rw [List.length_set, List.length_set]; exact S.len, fun j q e => ?_, S.mlen, S.mem, S.nd, S.there⟩
  by_cases h : j = i
  · subst h
    have hl : j < ss.length := by
      have := (List.getElem?_eq_some_iff.mp e).1
      rwa [List.length_set] at this
    rw [List.getElem?_set_self hl] at e
    exact ⟨v, by rw [List.getElem?_set_self (by rw [S.len]; exact hl)], hv q (Option.some.inj e)⟩
  · rw [List.getElem?_set_ne (Ne.symm h)] at e
    rw [List.getElem?_set_ne (Ne.symm h)]
    exact S.slot j q e
/-- slots are forgotten -/
theorem Sit.less (S : Sit K B H al σ ss mem) {ss' : Sl} (hl : ss'.length = ss.length) (h : ∀ (i : Nat) (r : Vl), ss'[i]? = some (some r) → ss[i]? = some (some r)) : Sit K B H al σ ss' mem :=
  ⟨S.sub, by rw [hl]; exact S.len, fun i r e => S.slot i r (h i r e), S.mlen, S.mem, S.nd, S.there⟩
/-- the last own objects are forgotten -/
theorem Sit.drop {more : List Mc} (S : Sit K B H al σ ss (mem ++ more)) (h : ∀ (i n : Nat), ss[i]? = some (some (Vl.own n)) → n < mem.length) : Sit K B H (al.take mem.length) σ ss mem := by
  have hl : al.length = mem.length + more.length := by rw [S.mlen, List.length_append]
  have gt : ∀ n, n < mem.length → (al.take mem.length)[n]? = al[n]? := fun n h => List.getElem?_take_of_lt h
  refine ⟨S.sub, S.len, fun i r e => ?_, by rw [List.length_take]; omega, fun n a m h1 h2 => ?_, S.nd.sublist (List.take_sublist _ _), fun a h => S.there a (List.mem_of_mem_take h)⟩
  · obtain ⟨v, h1, h2⟩ := S.slot i r e
    refine ⟨v, h1, ?_⟩
    cases r with
    | dat d => exact h2
    | own n =>
      obtain ⟨x, h3, h4⟩ := h2
      exact ⟨x, by rw [gt n (h i n e)]; exact h3, h4⟩
    | tl ds => exact h2
    | lk ds => exact h2
  · have hn : n < mem.length := (List.getElem?_eq_some_iff.mp h2).1
    rw [gt n hn] at h1
    exact S.mem n a m h1 (by rw [List.getElem?_append_left hn]; exact h2)
theorem Stp.drop (P : Stp B H al B' H' al') (n : Nat) (h : al.length ≤ n) : Stp B H al B' H' (al'.take n) := by
  obtain ⟨ex, q, z⟩ := P.ext
  refine ⟨P.same, P.frame, P.fresh, P.stay, ex.take (n - al.length), ?_, fun a h => z a (List.mem_of_mem_take h)⟩
  rw [q, List.take_append, List.take_of_length_le h]
end
end DL
end
section
set_option Elab.async false
set_option linter.all false
set_option maxRecDepth 100000
namespace DL
open PySem PySem.Spec PyProof.Rows L2
section
variable (K : PySem.W.Frag)
/-- an expression: from these slots and own objects it gives r and leaves mem' -/
def DT (t : TE) (ss : Sl) (mem : List Mc) (r : Vl) (mem' : List Mc) : Prop :=
  ∀ (B H : Hp) (al : List Addr) (σ : L2.St) (Q : VK), Sit K B H al σ ss mem → (∀ B' H' al' v, Stp B H al B' H' al' → Sit K B' H' al' σ ss mem' → VlOk K B' al' v r → Q v H') → t σ H Q
def DB (t : TT) (ss : Sl) (mem : List Mc) (b : Bool) (mem' : List Mc) : Prop :=
  ∀ (B H : Hp) (al : List Addr) (σ : L2.St) (Q : Bool → Hp → Prop), Sit K B H al σ ss mem → (∀ B' H' al', Stp B H al B' H' al' → Sit K B' H' al' σ ss mem' → Q b H') → t σ H Q
/-- arguments that are data -/
def DA (t : TA) (ss : Sl) (mem : List Mc) (ds : List D) (mem' : List Mc) : Prop :=
  ∀ (B H : Hp) (al : List Addr) (σ : L2.St) (Q : List V → Hp → Prop), Sit K B H al σ ss mem → (∀ B' H' al' vs, Stp B H al B' H' al' → Sit K B' H' al' σ ss mem' → RepAll K B' vs ds → Q vs H') → t σ H Q
/-- the first argument own, the others data -/
def DAO (t : TA) (ss : Sl) (mem : List Mc) (n : Nat) (ds : List D) (mem' : List Mc) : Prop :=
  ∀ (B H : Hp) (al : List Addr) (σ : L2.St) (Q : List V → Hp → Prop), Sit K B H al σ ss mem → (∀ B' H' al' v vs, Stp B H al B' H' al' → Sit K B' H' al' σ ss mem' → VlOk K B' al' v (.own n) → RepAll K B' vs ds → Q (v :: vs) H') → t σ H Q
/-- an optional part of a slice -/
def DO (t : TO) (ss : Sl) (mem : List Mc) (i : Option Int) (mem' : List Mc) : Prop :=
  ∀ (B H : Hp) (al : List Addr) (σ : L2.St) (Q : Option Int → Hp → Prop), Sit K B H al σ ss mem → (∀ B' H' al', Stp B H al B' H' al' → Sit K B' H' al' σ ss mem' → Q i H') → t σ H Q
end
section
variable {K : PySem.W.Frag} {ss : Sl} {mem m1 m2 m3 m4 : List Mc} {ta tb tc te : TE} {i j : Int} {d e : D} {r r' : Vl}

theorem dt_var {i : Nat} (h : ss[i]? = some (some r)) : DT K (tVar i) ss mem r mem := fun B H al σ Q S k => by
  obtain ⟨v, h1, h2⟩ := S.slot i r h
  exact ⟨v, h1, k _ _ _ v (Stp.refl _ _ _) S h2⟩
theorem dt_c {v : V} (h : ∀ B, Rep K B v d) : DT K (tC v) ss mem (.dat d) mem := fun B H al σ Q S k => k _ _ _ v (Stp.refl _ _ _) S (h B)
theorem dt_int {i : Int} : DT K (tC (.int i)) ss mem (.dat (.int i)) mem := dt_c fun _ => .int i
theorem dt_bl {b : Bool} : DT K (tC (.bl b)) ss mem (.dat (.bl b)) mem := dt_c fun _ => .bl b
theorem dt_non : DT K (tC .non) ss mem (.dat .non) mem := dt_c fun _ => .non
theorem dt_str {x : Str} : DT K (tC (.str x)) ss mem (.dat (.str x)) mem := dt_c fun _ => .str x
theorem da_nil : DA K tNil ss mem [] mem := fun B H al σ Q S k => k _ _ _ [] (Stp.refl _ _ _) S .nil
theorem da_cons {t : TA} {ds : List D} (h1 : DT K ta ss mem (.dat d) m1) (h2 : DA K t ss m1 ds m2) : DA K (tCons ta t) ss mem (d :: ds) m2 := fun B H al σ Q S k =>
  h1 B H al σ _ S fun B1 H1 al1 v P1 S1 r1 => h2 B1 H1 al1 σ _ S1 fun B2 H2 al2 vs P2 S2 r2 => k _ _ _ _ (P1.trans P2) S2 (.cons (Rep.mono P2.same d r1) r2)
theorem dao_cons {t : TA} {n : Nat} {ds : List D} (h1 : DT K ta ss mem (.own n) m1) (h2 : DA K t ss m1 ds m2) : DAO K (tCons ta t) ss mem n ds m2 := fun B H al σ Q S k =>
  h1 B H al σ _ S fun B1 H1 al1 v P1 S1 r1 => h2 B1 H1 al1 σ _ S1 fun B2 H2 al2 vs P2 S2 r2 => k _ _ _ _ _ (P1.trans P2) S2 (r1.step P2) r2

/-- an operator by values -/
def DR2 (K : PySem.W.Frag) (rr : R2) (ss : Sl) (mem : List Mc) (x y : Vl) (r : Vl) (mem' : List Mc) : Prop :=
  ∀ (B H : Hp) (al : List Addr) (σ : L2.St) (v w : V) (Q : VK), Sit K B H al σ ss mem → VlOk K B al v x → VlOk K B al w y → (∀ B' H' al' z, Stp B H al B' H' al' → Sit K B' H' al' σ ss mem' → VlOk K B' al' z r → Q z H') → rr v w H Q
theorem dt_op {rr : R2} {x y : Vl} (ha : DT K ta ss mem x m1) (hb : DT K tb ss m1 y m2) (hr : DR2 K rr ss m2 x y r m3) : DT K (tOp rr ta tb) ss mem r m3 := fun B H al σ Q S k =>
  ha B H al σ _ S fun B1 H1 al1 v P1 S1 r1 => hb B1 H1 al1 σ _ S1 fun B2 H2 al2 w P2 S2 r2 => hr B2 H2 al2 σ v w Q S2 (r1.step P2) r2 fun B3 H3 al3 z P3 S3 r3 => k _ _ _ _ ((P1.trans P2).trans P3) S3 r3
theorem dr_i0 {g : Int → Int → V} (h : ∀ B, Rep K B (g i j) d) : DR2 K (rI0 g) ss mem (.dat (.int i)) (.dat (.int j)) (.dat d) mem := fun B H al σ v w Q S hv hw k => by
  cases hv
  cases hw
  exact ⟨i, j, rfl, rfl, k _ _ _ _ (Stp.refl _ _ _) S (h B)⟩
theorem dr_ic {C : Int → Int → Prop} {g : Int → Int → V} (hc : C i j) (h : ∀ B, Rep K B (g i j) d) : DR2 K (rI C g) ss mem (.dat (.int i)) (.dat (.int j)) (.dat d) mem := fun B H al σ v w Q S hv hw k => by
  cases hv
  cases hw
  exact ⟨i, j, rfl, rfl, hc, k _ _ _ _ (Stp.refl _ _ _) S (h B)⟩
/-- a + b, a - b -/
theorem dt_i0 {g : Int → Int → Int} (ha : DT K ta ss mem (.dat (.int i)) m1) (hb : DT K tb ss m1 (.dat (.int j)) m2) : DT K (tOp (rI0 fun a b => .int (g a b)) ta tb) ss mem (.dat (.int (g i j))) m2 :=
  dt_op ha hb (dr_i0 fun _ => .int _)
/-- a < b .. -/
theorem dt_i0b {g : Int → Int → Bool} (ha : DT K ta ss mem (.dat (.int i)) m1) (hb : DT K tb ss m1 (.dat (.int j)) m2) : DT K (tOp (rI0 fun a b => .bl (g a b)) ta tb) ss mem (.dat (.bl (g i j))) m2 :=
  dt_op ha hb (dr_i0 fun _ => .bl _)
/-- a * b, a // b, a % b -/
theorem dt_ic {C : Int → Int → Prop} {g : Int → Int → Int} (ha : DT K ta ss mem (.dat (.int i)) m1) (hb : DT K tb ss m1 (.dat (.int j)) m2) (hc : C i j) : DT K (tOp (rI C fun a b => .int (g a b)) ta tb) ss mem (.dat (.int (g i j))) m2 :=
  dt_op ha hb (dr_ic hc fun _ => .int _)
/-- == of ints -/
theorem dt_eqI (ha : DT K ta ss mem (.dat (.int i)) m1) (hb : DT K tb ss m1 (.dat (.int j)) m2) : DT K (tOp rEq ta tb) ss mem (.dat (.bl (decide (i = j)))) m2 :=
  dt_op ha hb fun B H al σ v w Q S hv hw k => by
    cases hv
    cases hw
    refine ⟨rfl, k _ _ _ _ (Stp.refl _ _ _) S ?_⟩
    have e : decide (V.int i = V.int j) = decide (i = j) := by simp
    rw [e]
    exact .bl _
theorem dt_neI (ha : DT K ta ss mem (.dat (.int i)) m1) (hb : DT K tb ss m1 (.dat (.int j)) m2) : DT K (tOp rNe ta tb) ss mem (.dat (.bl (!decide (i = j)))) m2 :=
  dt_op ha hb fun B H al σ v w Q S hv hw k => by
    cases hv
    cases hw
    refine ⟨rfl, k _ _ _ _ (Stp.refl _ _ _) S ?_⟩
    have e : decide (V.int i = V.int j) = decide (i = j) := by simp
    rw [e]
    exact .bl _
def D.isN : D → Bool
  | .non => true
  | _ => false
theorem rep_isN {B : Hp} {v : V} (h : Rep K B v d) : decide (v = .non) = d.isN := by
  cases h <;> simp [D.isN]
theorem dt_isN (ha : DT K ta ss mem (.dat d) m1) : DT K (tIsN ta) ss mem (.dat (.bl d.isN)) m1 := fun B H al σ Q S k =>
  ha B H al σ _ S fun B1 H1 al1 v P1 S1 r1 => by
    show Q (.bl (decide (v = .non))) H1
    rw [rep_isN r1]
    exact k _ _ _ _ P1 S1 (.bl _)
theorem dt_notN (ha : DT K ta ss mem (.dat d) m1) : DT K (tNotN ta) ss mem (.dat (.bl (!d.isN))) m1 := fun B H al σ Q S k =>
  ha B H al σ _ S fun B1 H1 al1 v P1 S1 r1 => by
    show Q (.bl (!decide (v = .non))) H1
    rw [rep_isN r1]
    exact k _ _ _ _ P1 S1 (.bl _)
/-- items by place -/
theorem RepAll.atI {B : Hp} {xs : List V} {ds : List D} {i : Int} {d : D} (h : RepAll K B xs ds) (e : L2.atI ds i = some d) : ∃ v, L2.atI xs i = some v ∧ Rep K B v d := by
  unfold L2.atI at e ⊢
  rw [h.len]
  cases q : ixN ds.length i with
  | none => rw [q] at e; cases e
  | some n =>
    rw [q] at e
    exact h.get (i := n) e
theorem Sit.seqT {B H : Hp} {al : List Addr} {σ : L2.St} {a : Addr} {xs : List V} (S : Sit K B H al σ ss mem) (h : SqT K B a xs) : SqT K H a xs := sameT S.sub h
theorem Sit.seqL {B H : Hp} {al : List Addr} {σ : L2.St} {a : Addr} {xs : List V} (S : Sit K B H al σ ss mem) (h : SqL K B a xs) : SqL K H a xs := S.sub.seq h
theorem dt_ixT {ds : List D} (ha : DT K ta ss mem (.dat (.tup ds)) m1) (hb : DT K tb ss m1 (.dat (.int i)) m2) (h : L2.atI ds i = some d) : DT K (tOp (rIxT K) ta tb) ss mem (.dat d) m2 :=
  dt_op ha hb fun B H al σ v w Q S hv hw k => by
    cases hv with
    | tup s r =>
      cases hw
      obtain ⟨x, h1, h2⟩ := r.atI h
      exact ⟨_, _, i, x, rfl, rfl, S.seqT (SqT.of s), h1, k _ _ _ _ (Stp.refl _ _ _) S h2⟩
theorem dt_ixC {ds : List D} (ha : DT K ta ss mem (.dat (.ctp ds)) m1) (hb : DT K tb ss m1 (.dat (.int i)) m2) (h : L2.atI ds i = some d) : DT K (tOp (rIxT K) ta tb) ss mem (.dat d) m2 :=
  dt_op ha hb fun B H al σ v w Q S hv hw k => by
    cases hv with
    | ctp s r =>
      cases hw
      obtain ⟨x, h1, h2⟩ := r.atI h
      exact ⟨_, _, i, x, rfl, rfl, S.seqT s, h1, k _ _ _ _ (Stp.refl _ _ _) S h2⟩
theorem dt_ixL {ds : List D} (ha : DT K ta ss mem (.dat (.lst ds)) m1) (hb : DT K tb ss m1 (.dat (.int i)) m2) (h : L2.atI ds i = some d) : DT K (tOp (rIxL K) ta tb) ss mem (.dat d) m2 :=
  dt_op ha hb fun B H al σ v w Q S hv hw k => by
    cases hv with
    | lst s r =>
      cases hw
      obtain ⟨x, h1, h2⟩ := r.atI h
      exact ⟨_, _, i, x, rfl, rfl, S.seqL s, h1, k _ _ _ _ (Stp.refl _ _ _) S h2⟩
theorem dt_ixO {n : Nat} {ds : List D} (ha : DT K ta ss mem (.own n) m1) (hb : DT K tb ss m1 (.dat (.int i)) m2) (hm : m2[n]? = some (.lst ds)) (h : L2.atI ds i = some d) : DT K (tOp (rIxL K) ta tb) ss mem (.dat d) m2 :=
  dt_op ha hb fun B H al σ v w Q S hv hw k => by
    obtain ⟨a, h1, rfl⟩ := hv
    cases hw
    obtain ⟨_, xs, h2, h3⟩ := S.mem n a _ h1 hm
    obtain ⟨x, h4, h5⟩ := h3.atI h
    exact ⟨_, _, i, x, rfl, rfl, SqL.of h2, h4, k _ _ _ _ (Stp.refl _ _ _) S h5⟩
/-- t < u (tuples of ints) -/
theorem dt_ltT {ns ms : List Int} (ha : DT K ta ss mem (.dat (.tup (ns.map .int))) m1) (hb : DT K tb ss m1 (.dat (.tup (ms.map .int))) m2) : DT K (tOp (rLtT K) ta tb) ss mem (.dat (.bl (HT.lexLt ns ms))) m2 :=
  dt_op ha hb fun B H al σ v w Q S hv hw k => by
    cases hv with
    | tup s r =>
      cases hw with
      | tup s' r' =>
        cases r.ints
        cases r'.ints
        exact ⟨_, _, ns, ms, rfl, rfl, S.seqT (SqT.of s), S.seqT (SqT.of s'), k _ _ _ _ (Stp.refl _ _ _) S (.bl _)⟩
/-- xs + ys, both own: a new own list -/
theorem dt_cat {n n' : Nat} {ds es : List D} (ha : DT K ta ss mem (.own n) m1) (hb : DT K tb ss m1 (.own n') m2) (h1 : m2[n]? = some (.lst ds)) (h2 : m2[n']? = some (.lst es)) (hl : ds.length + es.length ≤ 16777216) :
    DT K (tOp rCat ta tb) ss mem (.own m2.length) (m2 ++ [.lst (ds ++ es)]) :=
  dt_op ha hb fun B H al σ v w Q S hv hw k => by
    obtain ⟨a, a1, rfl⟩ := hv
    obtain ⟨b, b1, rfl⟩ := hw
    obtain ⟨_, xs, a2, a3⟩ := S.mem n a _ a1 h1
    obtain ⟨_, ys, b2, b3⟩ := S.mem n' b _ b1 h2
    refine ⟨a, b, xs, ys, rfl, rfl, a2, b2, by rw [a3.len, b3.len, sizeLine_eq]; exact hl, fun p np => ?_⟩
    have nb : B p = none := S.sub.free np
    obtain ⟨P, S'⟩ := S.layOwn (o := .lst (xs ++ ys)) (m := .lst (ds ++ es)) np ⟨nb, _, upd_same, a3.append b3⟩
    exact k _ _ _ _ P S' ⟨p, by rw [← S.mlen, List.getElem?_append_right (Nat.le_refl _), Nat.sub_self]; rfl, rfl⟩
theorem dt_un {g : Int → Int} (ha : DT K ta ss mem (.dat (.int i)) m1) : DT K (tUn (rU fun a => .int (g a)) ta) ss mem (.dat (.int (g i))) m1 := fun B H al σ Q S k =>
  ha B H al σ _ S fun B1 H1 al1 v P1 S1 r1 => by
    cases r1
    exact ⟨i, rfl, k _ _ _ _ P1 S1 (.int _)⟩
/-! tests -/
theorem db_test {b : Bool} (h : DT K te ss mem (.dat (.bl b)) m1) : DB K (tTest te) ss mem b m1 := fun B H al σ Q S k =>
  h B H al σ _ S fun B1 H1 al1 v P1 S1 r1 => by
    cases r1
    exact ⟨b, rfl, k _ _ _ P1 S1⟩
theorem db_b {b : Bool} (h : DT K te ss mem (.dat (.bl b)) m1) : DB K (tB te) ss mem b m1 := fun B H al σ Q S k =>
  h B H al σ _ S fun B1 H1 al1 v P1 S1 r1 => by
    cases r1
    exact ⟨b, rfl, k _ _ _ P1 S1⟩
theorem db_not {t : TT} {b : Bool} (h : DB K t ss mem b m1) : DB K (tNot t) ss mem (!b) m1 := fun B H al σ Q S k => h B H al σ _ S k
theorem db_and_t {t u : TT} {b : Bool} (h : DB K t ss mem true m1) (g : DB K u ss m1 b m2) : DB K (tAnd t u) ss mem b m2 := fun B H al σ Q S k =>
  h B H al σ _ S fun B1 H1 al1 P1 S1 => iteT (g B1 H1 al1 σ _ S1 fun B2 H2 al2 P2 S2 => k _ _ _ (P1.trans P2) S2)
theorem db_and_f {t u : TT} (h : DB K t ss mem false m1) : DB K (tAnd t u) ss mem false m1 := fun B H al σ Q S k =>
  h B H al σ _ S fun B1 H1 al1 P1 S1 => iteF (k _ _ _ P1 S1)
theorem db_or_t {t u : TT} (h : DB K t ss mem true m1) : DB K (tOr t u) ss mem true m1 := fun B H al σ Q S k =>
  h B H al σ _ S fun B1 H1 al1 P1 S1 => iteT (k _ _ _ P1 S1)
theorem db_or_f {t u : TT} {b : Bool} (h : DB K t ss mem false m1) (g : DB K u ss m1 b m2) : DB K (tOr t u) ss mem b m2 := fun B H al σ Q S k =>
  h B H al σ _ S fun B1 H1 al1 P1 S1 => iteF (g B1 H1 al1 σ _ S1 fun B2 H2 al2 P2 S2 => k _ _ _ (P1.trans P2) S2)
/-- both tests without a change -/
theorem db_and {t u : TT} {a b : Bool} (h : DB K t ss mem a mem) (g : a = true → DB K u ss mem b mem) : DB K (tAnd t u) ss mem (a && b) mem := by
  cases a with
  | true => exact db_and_t h (g rfl)
  | false => exact db_and_f h
theorem db_or {t u : TT} {a b : Bool} (h : DB K t ss mem a mem) (g : a = false → DB K u ss mem b mem) : DB K (tOr t u) ss mem (a || b) mem := by
  cases a with
  | true => exact db_or_t h
  | false => exact db_or_f h (g rfl)
theorem dt_andV_t {b : Bool} (h : DT K ta ss mem (.dat (.bl true)) m1) (g : DT K tb ss m1 r m2) : DT K (tAndV ta tb) ss mem r m2 := fun B H al σ Q S k =>
  h B H al σ _ S fun B1 H1 al1 v P1 S1 r1 => by
    cases r1
    exact ⟨true, rfl, iteT (g B1 H1 al1 σ _ S1 fun B2 H2 al2 v P2 S2 r2 => k _ _ _ _ (P1.trans P2) S2 r2)⟩
theorem dt_andV_f (h : DT K ta ss mem (.dat (.bl false)) m1) : DT K (tAndV ta tb) ss mem (.dat (.bl false)) m1 := fun B H al σ Q S k =>
  h B H al σ _ S fun B1 H1 al1 v P1 S1 r1 => by
    cases r1
    exact ⟨false, rfl, iteF (k _ _ _ _ P1 S1 (.bl _))⟩
theorem dt_andV {a b : Bool} (h : DT K ta ss mem (.dat (.bl a)) mem) (g : a = true → DT K tb ss mem (.dat (.bl b)) mem) : DT K (tAndV ta tb) ss mem (.dat (.bl (a && b))) mem := by
  cases a with
  | true => exact dt_andV_t (b := b) h (g rfl)
  | false => exact dt_andV_f h
theorem dt_orV_t (h : DT K ta ss mem (.dat (.bl true)) m1) : DT K (tOrV ta tb) ss mem (.dat (.bl true)) m1 := fun B H al σ Q S k =>
  h B H al σ _ S fun B1 H1 al1 v P1 S1 r1 => by
    cases r1
    exact ⟨true, rfl, iteT (k _ _ _ _ P1 S1 (.bl _))⟩
theorem dt_orV_f (h : DT K ta ss mem (.dat (.bl false)) m1) (g : DT K tb ss m1 r m2) : DT K (tOrV ta tb) ss mem r m2 := fun B H al σ Q S k =>
  h B H al σ _ S fun B1 H1 al1 v P1 S1 r1 => by
    cases r1
    exact ⟨false, rfl, iteF (g B1 H1 al1 σ _ S1 fun B2 H2 al2 v P2 S2 r2 => k _ _ _ _ (P1.trans P2) S2 r2)⟩
theorem dt_orV {a b : Bool} (h : DT K ta ss mem (.dat (.bl a)) mem) (g : a = false → DT K tb ss mem (.dat (.bl b)) mem) : DT K (tOrV ta tb) ss mem (.dat (.bl (a || b))) mem := by
  cases a with
  | true => exact dt_orV_t h
  | false => exact dt_orV_f h (g rfl)
theorem dt_notV {b : Bool} (h : DT K ta ss mem (.dat (.bl b)) m1) : DT K (tNotV ta) ss mem (.dat (.bl (!b))) m1 := fun B H al σ Q S k =>
  h B H al σ _ S fun B1 H1 al1 v P1 S1 r1 => by
    cases r1
    exact ⟨b, rfl, k _ _ _ _ P1 S1 (.bl _)⟩
theorem dt_if_t {c : TT} (h : DB K c ss mem true m1) (g : DT K ta ss m1 r m2) : DT K (tIf c ta tb) ss mem r m2 := fun B H al σ Q S k =>
  h B H al σ _ S fun B1 H1 al1 P1 S1 => iteT (g B1 H1 al1 σ _ S1 fun B2 H2 al2 v P2 S2 r2 => k _ _ _ _ (P1.trans P2) S2 r2)
theorem dt_if_f {c : TT} (h : DB K c ss mem false m1) (g : DT K tb ss m1 r m2) : DT K (tIf c ta tb) ss mem r m2 := fun B H al σ Q S k =>
  h B H al σ _ S fun B1 H1 al1 P1 S1 => iteF (g B1 H1 al1 σ _ S1 fun B2 H2 al2 v P2 S2 r2 => k _ _ _ _ (P1.trans P2) S2 r2)
/-- a choice: both ways -/
theorem dt_if {c : TT} {b : Bool} (h : DB K c ss mem b m1) (g : if b = true then DT K ta ss m1 r m2 else DT K tb ss m1 r m2) : DT K (tIf c ta tb) ss mem r m2 := by
  cases b with
  | true => exact dt_if_t h g
  | false => exact dt_if_f h g
/-- a < b < c of ints, by values -/
theorem dt_chain {g g' : Int → Int → Bool} {k' : Int} (ha : DT K ta ss mem (.dat (.int i)) m1) (hb : DT K tb ss m1 (.dat (.int j)) m2) (hc : DT K tc ss m2 (.dat (.int k')) m2) :
    DT K (tChain (rI0 fun a b => .bl (g a b)) (rI0 fun a b => .bl (g' a b)) ta tb tc) ss mem (.dat (.bl (g i j && g' j k'))) m2 := fun B H al σ Q S k =>
  ha B H al σ _ S fun B1 H1 al1 v P1 S1 r1 => hb B1 H1 al1 σ _ S1 fun B2 H2 al2 w P2 S2 r2 => by
    cases r1
    cases r2
    refine ⟨i, j, rfl, rfl, g i j, rfl, ?_⟩
    cases q : g i j with
    | true => exact iteT (hc B2 H2 al2 σ _ S2 fun B3 H3 al3 x P3 S3 r3 => by
        cases r3
        exact ⟨j, k', rfl, rfl, k _ _ _ _ ((P1.trans P2).trans P3) S3 (by rw [q, Bool.true_and]; exact Rep.bl _)⟩)
    | false => exact iteF (k _ _ _ _ (P1.trans P2) S2 (by rw [q, Bool.false_and]; exact Rep.bl _))
/-! tuples, lists, slices -/
theorem dt_tup {t : TA} {ds : List D} (h : DA K t ss mem ds m1) (hl : ds.length ≤ 16777216 := by exact Nat.le_of_ble_eq_true rfl) : DT K (tTup t) ss mem (.dat (.tup ds)) m1 := fun B H al σ Q S k =>
  h B H al σ _ S fun B1 H1 al1 vs P1 S1 r1 => by
    refine ⟨by rw [r1.len, sizeLine_eq]; exact hl, fun p np => ?_⟩
    obtain ⟨P, S'⟩ := S1.lay (o := .tup vs) np
    exact k _ _ _ _ (P1.trans P) S' (.tup upd_same (RepAll.mono P.same ds r1))
theorem dt_lst {t : TA} {ds : List D} (h : DA K t ss mem ds m1) (hl : ds.length ≤ 16777216 := by exact Nat.le_of_ble_eq_true rfl) : DT K (tLst t) ss mem (.dat (.lst ds)) m1 := fun B H al σ Q S k =>
  h B H al σ _ S fun B1 H1 al1 vs P1 S1 r1 => by
    refine ⟨by rw [r1.len, sizeLine_eq]; exact hl, fun p np => ?_⟩
    obtain ⟨P, S'⟩ := S1.lay (o := .lst vs) np
    exact k _ _ _ _ (P1.trans P) S' (.lst (SqL.of upd_same) (RepAll.mono P.same ds r1))
theorem own_last {B : Hp} {al : List Addr} {σ : L2.St} {H : Hp} (S : Sit K B H al σ ss mem) (p : Addr) : VlOk K B (al ++ [p]) (.ref p) (.own mem.length) :=
  ⟨p, by rw [← S.mlen, List.getElem?_append_right (Nat.le_refl _), Nat.sub_self]; rfl, rfl⟩
theorem dt_lstO {t : TA} {ds : List D} (h : DA K t ss mem ds m1) (hl : ds.length ≤ 16777216 := by exact Nat.le_of_ble_eq_true rfl) : DT K (tLst t) ss mem (.own m1.length) (m1 ++ [.lst ds]) := fun B H al σ Q S k =>
  h B H al σ _ S fun B1 H1 al1 vs P1 S1 r1 => by
    refine ⟨by rw [r1.len, sizeLine_eq]; exact hl, fun p np => ?_⟩
    obtain ⟨P, S'⟩ := S1.layOwn (o := .lst vs) (m := .lst ds) np ⟨S1.sub.free np, vs, upd_same, r1⟩
    exact k _ _ _ _ (P1.trans P) S' (own_last S1 p)
theorem do_none : DO K tNoPart ss mem none mem := fun B H al σ Q S k => k _ _ _ (Stp.refl _ _ _) S
theorem do_some (h : DT K te ss mem (.dat (.int i)) m1) : DO K (tPart te) ss mem (some i) m1 := fun B H al σ Q S k =>
  h B H al σ _ S fun B1 H1 al1 v P1 S1 r1 => by
    cases r1
    exact ⟨i, rfl, k _ _ _ P1 S1⟩
def cutD (ds : List D) (lo hi : Option Int) : List D := (ds.drop (HT.sIx ds.length 0 lo)).take (HT.sIx ds.length ds.length hi - HT.sIx ds.length 0 lo)
theorem cut_rep {B : Hp} {vs : List V} {ds : List D} {lo hi : Option Int} (h : RepAll K B vs ds) : RepAll K B (cutV vs lo hi) (cutD ds lo hi) := by
  unfold cutV cutD
  rw [h.len]
  exact RepAll.take _ (RepAll.drop _ h)
theorem dt_slT {tl th : TO} {lo hi : Option Int} {ds : List D} (h : DT K te ss mem (.dat (.tup ds)) m1) (hl : DO K tl ss m1 lo m2) (hh : DO K th ss m2 hi m3) : DT K (tSl (rSlA K) te tl th) ss mem (.dat (.tup (cutD ds lo hi))) m3 := fun B H al σ Q S k =>
  h B H al σ _ S fun B1 H1 al1 v P1 S1 r1 => hl B1 H1 al1 σ _ S1 fun B2 H2 al2 P2 S2 => hh B2 H2 al2 σ _ S2 fun B3 H3 al3 P3 S3 => by
    have r3 := Rep.mono (P2.trans P3).same _ r1
    cases r3 with
    | @tup a xs _ s r =>
      refine ⟨a, xs, rfl, S3.seqT (SqT.of s), fun z => ?_, fun z p np => ?_⟩
      · have e : cutD ds lo hi = ds := by
          unfold cutD
          rw [r.len] at z
          rw [z.1, z.2]
          exact List.take_length
        rw [e] at k
        exact k _ _ _ _ ((P1.trans P2).trans P3) S3 (.tup s r)
      · obtain ⟨P, S'⟩ := S3.lay (o := .tup (cutV xs lo hi)) np
        exact k _ _ _ _ (((P1.trans P2).trans P3).trans P) S' (.tup upd_same (RepAll.mono P.same _ (cut_rep r)))
theorem dt_slL {tl th : TO} {lo hi : Option Int} {ds : List D} (h : DT K te ss mem (.dat (.lst ds)) m1) (hl : DO K tl ss m1 lo m2) (hh : DO K th ss m2 hi m3) : DT K (tSl (rSlL K) te tl th) ss mem (.dat (.lst (cutD ds lo hi))) m3 := fun B H al σ Q S k =>
  h B H al σ _ S fun B1 H1 al1 v P1 S1 r1 => hl B1 H1 al1 σ _ S1 fun B2 H2 al2 P2 S2 => hh B2 H2 al2 σ _ S2 fun B3 H3 al3 P3 S3 => by
    have r3 := Rep.mono (P2.trans P3).same _ r1
    cases r3 with
    | @lst a xs _ s r =>
      refine ⟨a, xs, rfl, S3.seqL s, fun p np => ?_⟩
      obtain ⟨P, S'⟩ := S3.lay (o := .lst (cutV xs lo hi)) np
      exact k _ _ _ _ (((P1.trans P2).trans P3).trans P) S' (.lst (SqL.of upd_same) (RepAll.mono P.same _ (cut_rep r)))
/-! objects -/
theorem dt_fld {C : Addr} {gs : List (Str × D)} {f : Str} (h : DT K te ss mem (.dat (.obj C gs)) m1) (c : Cls K C) (n : NoAttr K C f) (hf : gs.lookup f = some d) : DT K (tFld K te f) ss mem (.dat d) m1 := fun B H al σ Q S k =>
  h B H al σ _ S fun B1 H1 al1 v P1 S1 r1 => by
    cases r1 with
    | @obj a _ dx fs _ s r =>
      obtain ⟨x, h1, h2⟩ := r.look hf
      exact ⟨a, C, dx, fs, x, rfl, S1.sub _ _ s, c, n, h1, k _ _ _ _ P1 S1 h2⟩
theorem dt_fldO {C : Addr} {n : Nat} {gs : List (Str × D)} {f : Str} (h : DT K te ss mem (.own n) m1) (hm : m1[n]? = some (.obj C gs)) (c : Cls K C) (na : NoAttr K C f) (hf : gs.lookup f = some d) : DT K (tFld K te f) ss mem (.dat d) m1 := fun B H al σ Q S k =>
  h B H al σ _ S fun B1 H1 al1 v P1 S1 r1 => by
    obtain ⟨a, a1, rfl⟩ := r1
    obtain ⟨_, dx, fs, a2, a3⟩ := S1.mem n a _ a1 hm
    obtain ⟨x, h1, h2⟩ := a3.look hf
    exact ⟨a, C, dx, fs, x, rfl, a2, c, na, h1, k _ _ _ _ P1 S1 h2⟩
theorem dt_prop {C : Addr} {gs : List (Str × D)} {f : Str} {E : XK} (h : DT K te ss mem (.dat (.obj C gs)) m1) (hf : gs.lookup f = some d) : DT K (tProp C (getSp C f) [] E te) ss mem (.dat d) m1 := fun B H al σ Q S k =>
  h B H al σ _ S fun B1 H1 al1 v P1 S1 r1 => by
    cases r1 with
    | @obj a _ dx fs _ s r =>
      obtain ⟨x, h1, h2⟩ := r.look hf
      exact ⟨a, dx, fs, rfl, S1.sub _ _ s, a, dx, fs, x, rfl, S1.sub _ _ s, h1, k _ _ _ _ P1 S1 h2⟩
/-! an own object becomes data -/
theorem Sit.frz {B H : Hp} {al : List Addr} {σ : L2.St} (S : Sit K B H al σ ss mem) {n : Nat} {v : V} {ds : List D} (hv : VlOk K B al v (.own n)) (hm : mem[n]? = some (.lst ds)) :
    ∃ B', Stp B H al B' H al ∧ Sit K B' H al σ ss (mem.set n .gone) ∧ Rep K B' v (.lst ds) := by
  obtain ⟨a, a1, rfl⟩ := hv
  obtain ⟨b0, xs, a2, a3⟩ := S.mem n a _ a1 hm
  obtain ⟨P, S'⟩ := S.freeze a1 b0 a2
  exact ⟨_, P, S', .lst (SqL.of upd_same) (RepAll.mono P.same ds a3)⟩
theorem dt_frz {n : Nat} {ds : List D} (h : DT K te ss mem (.own n) m1) (hm : m1[n]? = some (.lst ds)) : DT K te ss mem (.dat (.lst ds)) (m1.set n .gone) := fun B H al σ Q S k =>
  h B H al σ _ S fun B1 H1 al1 v P1 S1 r1 => by
    obtain ⟨B2, P2, S2, r2⟩ := S1.frz r1 hm
    exact k _ _ _ _ (P1.trans P2) S2 r2
/-- a new own object that is let go -/
theorem dt_drop {m : Mc} (h : DT K te ss mem (.dat d) (m1 ++ [m])) (hs : ∀ (i n : Nat), ss[i]? = some (some (Vl.own n)) → n < m1.length) (hl : mem.length ≤ m1.length) : DT K te ss mem (.dat d) m1 := fun B H al σ Q S k =>
  h B H al σ _ S fun B1 H1 al1 v P1 S1 r1 => k _ _ _ v (P1.drop m1.length (by rw [S.mlen]; exact hl)) (S1.drop hs) r1
end
end DL
end
section
set_option Elab.async false
set_option linter.all false
set_option maxRecDepth 100000
namespace DL
open PySem PySem.Spec PyProof.Rows L2
/-! ### statements -/
inductive Out where
  | nx (ss : Sl) (mem : List Mc) | rt (r : Vl) (mem : List Mc) | bk (ss : Sl) (mem : List Mc) | ct (ss : Sl) (mem : List Mc)
def OutOk (K : PySem.W.Frag) (B H : Hp) (al : List Addr) (Dn : Ends) : Out → Prop
  | .nx ss mem => ∀ σ, Sit K B H al σ ss mem → Dn.nx σ H
  | .rt r mem => ∀ σ ss v, Sit K B H al σ ss mem → VlOk K B al v r → Dn.rt v H
  | .bk ss mem => ∀ σ, Sit K B H al σ ss mem → Dn.bk σ H
  | .ct ss mem => ∀ σ, Sit K B H al σ ss mem → Dn.ct σ H
def DS (K : PySem.W.Frag) (t : TS) (ss : Sl) (mem : List Mc) (out : Out) : Prop :=
  ∀ (B H : Hp) (al : List Addr) (σ : L2.St) (Dn : Ends), Sit K B H al σ ss mem → (∀ B' H' al', Stp B H al B' H' al' → OutOk K B' H' al' Dn out) → t Dn σ H
def Out.stops : Out → Bool
  | .nx _ _ => false
  | _ => true
section
variable {K : PySem.W.Frag} {ss ss1 ss2 : Sl} {mem m1 m2 m3 m4 : List Mc} {ta tb tc te : TE} {i j : Int} {d e : D} {r r' : Vl} {t u : TS} {out : Out}
theorem ds_seq (h : DS K t ss mem (.nx ss1 m1)) (g : DS K u ss1 m1 out) : DS K (tSeq t u) ss mem out := fun B H al σ Dn S k =>
  h B H al σ { Dn with nx := u Dn } S fun B1 H1 al1 P1 σ1 S1 => g B1 H1 al1 σ1 Dn S1 fun B2 H2 al2 P2 => k _ _ _ (P1.trans P2)
theorem ds_stop (h : DS K t ss mem out) (hs : out.stops = true := by rfl) : DS K (tSeq t u) ss mem out := fun B H al σ Dn S k =>
  h B H al σ { Dn with nx := u Dn } S fun B1 H1 al1 P1 => by
    have q := k _ _ _ P1
    cases out with
    | nx _ _ => cases hs
    | rt _ _ => exact q
    | bk _ _ => exact q
    | ct _ _ => exact q
theorem ds_next : DS K tNext ss mem (.nx ss mem) := fun B H al σ Dn S k => k _ _ _ (Stp.refl _ _ _) σ S
theorem ds_if {c : TT} {b : Bool} (h : DB K c ss mem b m1) (g : if b = true then DS K t ss m1 out else DS K u ss m1 out) : DS K (tIfS c t u) ss mem out := fun B H al σ Dn S k =>
  h B H al σ _ S fun B1 H1 al1 P1 S1 => by
    cases b with
    | true => exact iteT (g B1 H1 al1 σ Dn S1 fun B2 H2 al2 P2 => k _ _ _ (P1.trans P2))
    | false => exact iteF (g B1 H1 al1 σ Dn S1 fun B2 H2 al2 P2 => k _ _ _ (P1.trans P2))
theorem ds_if_t {c : TT} (h : DB K c ss mem true m1) (g : DS K t ss m1 out) : DS K (tIfS c t u) ss mem out := ds_if h g
theorem ds_if_f {c : TT} (h : DB K c ss mem false m1) (g : DS K u ss m1 out) : DS K (tIfS c t u) ss mem out := ds_if h g
theorem ds_ret (h : DT K te ss mem r m1) : DS K (tRet te) ss mem (.rt r m1) := fun B H al σ Dn S k =>
  h B H al σ _ S fun B1 H1 al1 v P1 S1 r1 => k _ _ _ P1 σ ss v S1 r1
theorem ds_retN : DS K tRetN ss mem (.rt (.dat .non) mem) := fun B H al σ Dn S k => k _ _ _ (Stp.refl _ _ _) σ ss _ S .non
theorem ds_drop (h : DT K te ss mem r m1) : DS K (tDrop te) ss mem (.nx ss m1) := fun B H al σ Dn S k =>
  h B H al σ _ S fun B1 H1 al1 v P1 S1 r1 => k _ _ _ P1 σ S1
theorem ds_break : DS K tBreak ss mem (.bk ss mem) := fun B H al σ Dn S k => k _ _ _ (Stp.refl _ _ _) σ S
theorem ds_cont : DS K tCont ss mem (.ct ss mem) := fun B H al σ Dn S k => k _ _ _ (Stp.refl _ _ _) σ S
theorem ds_set {i : Nat} (h : DT K te ss mem r m1) : DS K (tAsg te (gName i)) ss mem (.nx (ss.set i (some r)) m1) := fun B H al σ Dn S k =>
  h B H al σ _ S fun B1 H1 al1 v P1 S1 r1 => k _ _ _ P1 _ (S1.put fun q e => by cases e; exact r1)
/-- the first own slots and objects are let go (behind a block) -/
theorem ds_less {more : List Mc} (h : DS K t ss mem (.nx ss1 (m1 ++ more))) (hl : ss2.length = ss1.length) (hs : ∀ (i : Nat) (r : Vl), ss2[i]? = some (some r) → ss1[i]? = some (some r))
    (ho : ∀ (i n : Nat), ss2[i]? = some (some (Vl.own n)) → n < m1.length) (hm : mem.length ≤ m1.length) : DS K t ss mem (.nx ss2 m1) := fun B H al σ Dn S k =>
  h B H al σ Dn S fun B1 H1 al1 P1 σ1 S1 => k _ _ _ (P1.drop m1.length (by rw [S.mlen]; exact hm)) σ1 ((S1.less hl hs).drop ho)
/-- slots are let go -/
theorem ds_forget (h : DS K t ss mem (.nx ss1 m1)) (hl : ss2.length = ss1.length) (hs : ∀ (i : Nat) (r : Vl), ss2[i]? = some (some r) → ss1[i]? = some (some r)) : DS K t ss mem (.nx ss2 m1) := fun B H al σ Dn S k =>
  h B H al σ Dn S fun B1 H1 al1 P1 σ1 S1 => k _ _ _ P1 σ1 (S1.less hl hs)
/-- an own list at a slot becomes data, ahead of a statement -/
theorem Sit.frzSlot {B H : Hp} {al : List Addr} {σ : L2.St} (S : Sit K B H al σ ss mem) {i n : Nat} {ds : List D} (hi : ss[i]? = some (some (.own n))) (hm : mem[n]? = some (.lst ds)) :
    ∃ B', Stp B H al B' H al ∧ Sit K B' H al σ (ss.set i (some (.dat (.lst ds)))) (mem.set n .gone) := by
  obtain ⟨v, h1, h2⟩ := S.slot i _ hi
  obtain ⟨B', P, S', r⟩ := S.frz h2 hm
  refine ⟨B', P, S'.sub, by rw [List.length_set]; exact S'.len, fun j q e => ?_, S'.mlen, S'.mem, S'.nd, S'.there⟩
  by_cases hj : j = i
  · subst hj
    have hl : j < ss.length := (List.getElem?_eq_some_iff.mp hi).1
    rw [List.getElem?_set_self hl] at e
    have e' := Option.some.inj (Option.some.inj e)
    subst e'
    exact ⟨v, h1, r⟩
  · rw [List.getElem?_set_ne (Ne.symm hj)] at e
    exact S'.slot j q e
theorem ds_frz {n : Nat} {ds : List D} (i : Nat) (hi : ss[i]? = some (some (.own n))) (hm : mem[n]? = some (.lst ds)) (h : DS K t (ss.set i (some (.dat (.lst ds)))) (mem.set n .gone) out) : DS K t ss mem out := fun B H al σ Dn S k => by
  obtain ⟨B1, P1, S1⟩ := S.frzSlot hi hm
  exact h B1 H al σ Dn S1 fun B2 H2 al2 P2 => k _ _ _ (P1.trans P2)

/-! ### targets -/
def DG (K : PySem.W.Frag) (g : TG) (ss : Sl) (d : D) (ss' : Sl) (ws : List Nat) : Prop :=
  ∀ (B H : Hp) (al : List Addr) (σ : L2.St) (mem : List Mc) (v : V) (Q : L2.St → Hp → Prop), Sit K B H al σ ss mem → Rep K B v d →
    (∀ σ', Sit K B H al σ' ss' mem → (∀ vs : List Nat, (∀ w ∈ ws, w ∈ vs) → wipe σ' vs = wipe σ vs) → Q σ' H) → g v σ H Q
def DGs (K : PySem.W.Frag) (g : TGs) (ss : Sl) (ds : List D) (ss' : Sl) (ws : List Nat) : Prop :=
  ∀ (B H : Hp) (al : List Addr) (σ : L2.St) (mem : List Mc) (vs : List V) (Q : L2.St → Hp → Prop), Sit K B H al σ ss mem → RepAll K B vs ds →
    (∀ σ', Sit K B H al σ' ss' mem → (∀ us : List Nat, (∀ w ∈ ws, w ∈ us) → wipe σ' us = wipe σ us) → Q σ' H) → g vs σ H Q
theorem wipe_in {σ : L2.St} {i : Nat} : ∀ {vs : List Nat}, i ∈ vs → (wipe σ vs)[i]? = if i < σ.length then some none else none
  | [], h => by cases h
  | v :: vs, h => by
    unfold wipe
    by_cases e : v = i
    · subst e
      by_cases hl : v < σ.length
      · rw [if_pos hl, List.getElem?_set_self (by rw [wipe_length]; exact hl)]
      · rw [if_neg hl, List.getElem?_eq_none (by rw [List.length_set, wipe_length]; omega)]
    · rw [List.getElem?_set_ne e]
      exact wipe_in (by
        rcases List.mem_cons.mp h with z | z
        · exact absurd z.symm e
        · exact z)
theorem wipe_set {σ : L2.St} {i : Nat} {x : Option V} {vs : List Nat} (h : i ∈ vs) : wipe (σ.set i x) vs = wipe σ vs := by
  apply List.ext_getElem?
  intro j
  by_cases hj : j ∈ vs
  · rw [wipe_in hj, wipe_in hj, List.length_set]
  · rw [wipe_out hj, wipe_out hj, List.getElem?_set_ne (fun (z : i = j) => hj (by rw [← z]; exact h))]
theorem dg_name {i : Nat} : DG K (gName i) ss d (ss.set i (some (.dat d))) [i] := fun B H al σ mem v Q S r k =>
  k _ (S.put fun q e => by cases e; exact r) fun vs h => wipe_set (h i List.mem_cons_self)
theorem dgs_nil : DGs K gNil ss [] ss [] := fun B H al σ mem vs Q S r k => by
  cases r
  exact ⟨rfl, k σ S fun _ _ => rfl⟩
theorem dgs_cons {g : TG} {gs : TGs} {ds : List D} {w1 w2 : List Nat} (h1 : DG K g ss d ss1 w1) (h2 : DGs K gs ss1 ds ss2 w2) : DGs K (gCons g gs) ss (d :: ds) ss2 (w1 ++ w2) := fun B H al σ mem vs Q S r k => by
  cases r with
  | cons r1 r2 =>
    exact ⟨_, _, rfl, h1 B H al σ mem _ _ S r1 fun σ1 S1 k1 => h2 B H al σ1 mem _ _ S1 r2 fun σ2 S2 k2 => k σ2 S2 fun us h =>
      (k2 us fun w hw => h w (List.mem_append_right _ hw)).trans (k1 us fun w hw => h w (List.mem_append_left _ hw))⟩
theorem dg_tup {gs : TGs} {n : Nat} {ds : List D} {ws : List Nat} (h : DGs K gs ss ds ss1 ws) (hn : ds.length = n) : DG K (gTup K n gs) ss (.tup ds) ss1 ws := fun B H al σ mem v Q S r k => by
  cases r with
  | tup s ra => exact ⟨_, _, rfl, S.seqT (SqT.of s), by rw [ra.len]; exact hn, h B H al σ mem _ _ S ra k⟩
theorem ds_asg {g : TG} {ws : List Nat} (h : DT K te ss mem (.dat d) m1) (hg : DG K g ss d ss1 ws) : DS K (tAsg te g) ss mem (.nx ss1 m1) := fun B H al σ Dn S k =>
  h B H al σ _ S fun B1 H1 al1 v P1 S1 r1 => hg B1 H1 al1 σ _ v _ S1 r1 fun σ' S' _ => k _ _ _ P1 σ' S'
theorem ds_par {i j : Nat} {ta : TA} (h : DA K ta ss mem [d, e] m1) : DS K (tPar i j ta) ss mem (.nx ((ss.set i (some (.dat d))).set j (some (.dat e))) m1) := fun B H al σ Dn S k =>
  h B H al σ _ S fun B1 H1 al1 vs P1 S1 r1 => by
    cases r1 with
    | cons r1 r2 =>
      cases r2 with
      | cons r2 r3 =>
        cases r3
        exact ⟨_, _, rfl, k _ _ _ P1 _ ((S1.put fun q e => by cases e; exact r1).put fun q e => by cases e; exact r2)⟩
/-- xs[k] = e, xs own -/
theorem ds_setitem {to ti : TE} {n p : Nat} {ds : List D} {k : Int} (h : DT K te ss mem (.dat d) m1) (ho : DT K to ss m1 (.own n) m2) (hi : DT K ti ss m2 (.dat (.int k)) m3) (hm : m3[n]? = some (.lst ds)) (hk : ixN ds.length k = some p) :
    DS K (tAsg te (gSub to ti rSetL)) ss mem (.nx ss (m3.set n (.lst (ds.set p d)))) := fun B H al σ Dn S q =>
  h B H al σ _ S fun B1 H1 al1 v P1 S1 r1 => ho B1 H1 al1 σ _ S1 fun B2 H2 al2 o P2 S2 r2 => hi B2 H2 al2 σ _ S2 fun B3 H3 al3 x P3 S3 r3 => by
    cases r3
    obtain ⟨a, a1, rfl⟩ := r2.step P3
    obtain ⟨b0, xs, a2, a3⟩ := S3.mem n a _ a1 hm
    obtain ⟨P4, S4⟩ := S3.write (o := .lst (xs.set p v)) (m := .lst (ds.set p d)) a1 b0 ⟨b0, _, upd_same, RepAll.set (Rep.mono (P2.trans P3).same d r1) p a3⟩
    exact ⟨a, xs, k, p, rfl, rfl, a2, by rw [a3.len]; exact hk, q _ _ _ (((P1.trans P2).trans P3).trans P4) σ S4⟩
/-- xs.append(e), xs own -/
theorem dt_append {to : TE} {t : TA} {n : Nat} {ds : List D} (ho : DT K to ss mem (.own n) m1) (h : DA K t ss m1 [d] m2) (hm1 : m1[n]? = some (.lst ds)) (hm : m2[n]? = some (.lst ds)) (hl : ds.length < 16777216) :
    DT K (tBM K "list" rAppend to t) ss mem (.dat .non) (m2.set n (.lst (ds ++ [d]))) := fun B H al σ Q S k =>
  ho B H al σ _ S fun B1 H1 al1 v P1 S1 r1 => by
    obtain ⟨a, a1, rfl⟩ := r1
    obtain ⟨_, xs, a2, a3⟩ := S1.mem n a _ a1 hm1
    refine ⟨.inl ⟨rfl, xs, SqL.of a2⟩, h B1 H1 al1 σ _ S1 fun B2 H2 al2 vs P2 S2 r2 => ?_⟩
    cases r2 with
    | cons r2 r3 =>
      cases r3
      have a1' := P2.get a1
      obtain ⟨b0, ys, c2, c3⟩ := S2.mem n a _ a1' hm
      obtain ⟨P3, S3⟩ := S2.write (o := .lst (ys ++ [_])) (m := .lst (ds ++ [d])) a1' b0 ⟨b0, _, upd_same, c3.append (.cons r2 .nil)⟩
      exact ⟨a, ys, _, rfl, rfl, c2, by rw [c3.len, sizeLine_eq]; exact hl, k _ _ _ _ ((P1.trans P2).trans P3) S3 .non⟩
theorem RepFs.put {B : Hp} {f : Str} {v : V} {d : D} (r : Rep K B v d) : ∀ {gs : List (Str × D)} {fs : List (Str × V)}, RepFs K B fs gs → RepFs K B (putF f v fs) (putD f d gs)
  | [], _, h => by cases h; exact .cons r .nil
  | (g, x) :: gs, _, h => by
    cases h with
    | cons h1 h2 =>
      show RepFs K B (if g = f then _ else _) (if g = f then _ else _)
      by_cases e : g = f
      · rw [if_pos e, if_pos e]
        exact .cons r h2
      · rw [if_neg e, if_neg e]
        exact .cons h1 (RepFs.put r h2)
/-- o.f = e, o own -/
theorem ds_fld {C : Addr} {n : Nat} {f : Str} {gs : List (Str × D)} (h : DT K te ss mem (.dat d) m1) (ho : DT K ta ss m1 (.own n) m2) (hm : m2[n]? = some (.obj C gs)) (c : Cls K C) (na : NoAttr K C f) (hl : gs.length < 1000) :
    DS K (sFld K ta te f) ss mem (.nx ss (m2.set n (.obj C (putD f d gs)))) := fun B H al σ Dn S q =>
  h B H al σ _ S fun B1 H1 al1 v P1 S1 r1 => ho B1 H1 al1 σ _ S1 fun B2 H2 al2 o P2 S2 r2 => by
    obtain ⟨a, a1, rfl⟩ := r2
    obtain ⟨b0, dx, fv, a2, a3⟩ := S2.mem n a _ a1 hm
    obtain ⟨P3, S3⟩ := S2.write (o := .ins C dx (putF f v fv)) (m := .obj C (putD f d gs)) a1 b0 ⟨b0, dx, _, upd_same, a3.put (Rep.mono P2.same d r1)⟩
    exact ⟨a, C, dx, fv, rfl, a2, c, na, by rw [a3.len]; exact hl, q _ _ _ ((P1.trans P2).trans P3) σ S3⟩

/-! ### what is walked -/
/-- n turns, the i-th of which yields the data it i -/
def Walks (K : PySem.W.Frag) (B1 : Hp) (J : It) (n : Nat) (it : Nat → D) : Prop :=
  ∀ (B H : Hp) (al : List Addr) (σ : L2.St) (ss : Sl) (mem : List Mc), Same B1 B → Sit K B H al σ ss mem →
    (∀ i, i < n → J.go i H ∧ ∀ x H', J.yld i H x H' → ∃ B', Stp B H al B' H' al ∧ Sit K B' H' al σ ss mem ∧ Rep K B' x (it i)) ∧ (∀ i, n ≤ i → J.stop i H)
def DI (K : PySem.W.Frag) (wi : TI) (ss : Sl) (mem : List Mc) (n : Nat) (it : Nat → D) (mem' : List Mc) : Prop :=
  ∀ (B H : Hp) (al : List Addr) (σ : L2.St) (R : It → Hp → Prop), Sit K B H al σ ss mem → (∀ B' H' al' J, Stp B H al B' H' al' → Sit K B' H' al' σ ss mem' → Walks K B' J n it → R J H') → wi σ H R
theorem walks_range (B : Hp) (lo : Int) (n : Nat) : Walks K B (Itr lo n) n fun i => .int (lo + i) := fun B1 H al σ ss mem e S =>
  ⟨fun i hi => ⟨hi, fun x H' y => by
    obtain ⟨rfl, rfl⟩ := y
    exact ⟨B1, Stp.refl _ _ _, S, .int _⟩⟩, fun i hi => hi⟩
def nthD (ds : List D) (i : Nat) : D := ds.getD i .non
theorem nthD_get {ds : List D} {i : Nat} (h : i < ds.length) : ds[i]? = some (nthD ds i) := by
  unfold nthD
  rw [List.getD_eq_getElem?_getD, List.getElem?_eq_getElem h]
  rfl
theorem walks_list {B : Hp} {a : Addr} {xs : List V} {ds : List D} (s : SqL K B a xs) (r : RepAll K B xs ds) : Walks K B (Itl K a) ds.length (nthD ds) := fun B1 H al σ ss mem e S => by
  have s1 : SqL K H a xs := S.seqL (e.seq s)
  refine ⟨fun i hi => ?_, fun i hi => ⟨xs, s1, by rw [r.len]; exact hi⟩⟩
  obtain ⟨v, h1, h2⟩ := r.get (nthD_get hi)
  exact ⟨⟨xs, v, s1, h1⟩, fun x H' y => by
    obtain ⟨rfl, y⟩ := y
    have q := y xs s1
    rw [h1] at q
    cases q
    exact ⟨B1, Stp.refl _ _ _, S, Rep.mono e _ h2⟩⟩
theorem walks_tup {B : Hp} {a : Addr} {xs : List V} {ds : List D} (s : SqT K B a xs) (r : RepAll K B xs ds) : Walks K B (Itt K a) ds.length (nthD ds) := fun B1 H al σ ss mem e S => by
  have s1 : SqT K H a xs := S.seqT (sameT e s)
  refine ⟨fun i hi => ?_, fun i hi => ⟨xs, s1, by rw [r.len]; exact hi⟩⟩
  obtain ⟨v, h1, h2⟩ := r.get (nthD_get hi)
  exact ⟨⟨xs, v, s1, h1⟩, fun x H' y => by
    obtain ⟨rfl, y⟩ := y
    have q := y xs s1
    rw [h1] at q
    cases q
    exact ⟨B1, Stp.refl _ _ _, S, Rep.mono e _ h2⟩⟩
theorem di_rng1 {t : TA} {j : Int} (h : DA K t ss mem [.int j] m1) (h1 : -(2 ^ 62) ≤ j) (h2 : j < 2 ^ 62) : DI K (iRng1 t) ss mem j.toNat (fun i => .int (0 + i)) m1 := fun B H al σ R S k =>
  h B H al σ _ S fun B1 H1 al1 vs P1 S1 r1 => by
    cases r1 with
    | cons r1 r2 =>
      cases r2
      cases r1
      exact ⟨j, rfl, h1, h2, k _ _ _ _ P1 S1 (walks_range _ _ _)⟩
theorem di_rng2 {t : TA} {i j : Int} (h : DA K t ss mem [.int i, .int j] m1) (hb : -(2 ^ 62) ≤ i ∧ i < 2 ^ 62 ∧ -(2 ^ 62) ≤ j ∧ j < 2 ^ 62) : DI K (iRng2 t) ss mem (j - i).toNat (fun k => .int (i + k)) m1 := fun B H al σ R S k =>
  h B H al σ _ S fun B1 H1 al1 vs P1 S1 r1 => by
    cases r1 with
    | cons r1 r2 =>
      cases r2 with
      | cons r2 r3 =>
        cases r3
        cases r1
        cases r2
        exact ⟨i, j, rfl, hb, k _ _ _ _ P1 S1 (walks_range _ _ _)⟩
theorem di_list {ds : List D} (h : DT K te ss mem (.dat (.lst ds)) m1) : DI K (iList K te) ss mem ds.length (nthD ds) m1 := fun B H al σ R S k =>
  h B H al σ _ S fun B1 H1 al1 v P1 S1 r1 => by
    cases r1 with
    | lst s r => exact ⟨_, rfl, ⟨_, S1.seqL s⟩, k _ _ _ _ P1 S1 (walks_list s r)⟩
theorem di_tup {ds : List D} (h : DT K te ss mem (.dat (.tup ds)) m1) : DI K (iTup K te) ss mem ds.length (nthD ds) m1 := fun B H al σ R S k =>
  h B H al σ _ S fun B1 H1 al1 v P1 S1 r1 => by
    cases r1 with
    | tup s r => exact ⟨_, rfl, ⟨_, S1.seqT (SqT.of s)⟩, k _ _ _ _ P1 S1 (walks_tup (SqT.of s) r)⟩
/-- behind a piece that keeps all but these own objects -/
theorem Sit.back {B H B' H' : Hp} {al al' : List Addr} {σ σ2 : L2.St} {ss2 : Sl} (S : Sit K B H al σ ss mem) (P : Stp B H al B' H' al') (S' : Sit K B' H' al' σ2 ss2 m2) : Sit K B' H' al' σ ss m2 :=
  ⟨S'.sub, S.len, fun i r e => by
    obtain ⟨v, h1, h2⟩ := S.slot i r e
    exact ⟨v, h1, h2.step P⟩, S'.mlen, S'.mem, S'.nd, S'.there⟩

/-- for: the turns up to j, then the end, or a turn that leaves the loop -/
theorem ds_for {wi : TI} {g : TG} {tb : TS} {n : Nat} {it : Nat → D} (hi : DI K wi ss mem n it m1) (f : Nat → Sl) (m : Nat → List Mc) (f0 : f 0 = ss) (m0 : m 0 = m1) (j : Nat) (hj : j ≤ n)
    (step : ∀ i, i < j → ∃ ss' ws, DG K g (f i) (it i) ss' ws ∧ (DS K tb ss' (m i) (.nx (f (i + 1)) (m (i + 1))) ∨ DS K tb ss' (m i) (.ct (f (i + 1)) (m (i + 1)))))
    (last : (j = n ∧ out = .nx (f n) (m n)) ∨ (j < n ∧ ∃ ss' ws, DG K g (f j) (it j) ss' ws ∧ ((∃ r m', DS K tb ss' (m j) (.rt r m') ∧ out = .rt r m') ∨ (∃ s' m', DS K tb ss' (m j) (.bk s' m') ∧ out = .nx s' m')))) :
    DS K (tFor wi g tb) ss mem out := fun B H al σ Dn S k =>
  hi B H al σ _ S fun B1 H1 al1 J P1 S1 wk => by
    refine ⟨fun i k σ' H' => k = n - i ∧ i ≤ j ∧ ∃ B' al', Stp B1 H1 al1 B' H' al' ∧ Sit K B' H' al' σ' (f i) (m i), ⟨n, by simp, Nat.zero_le _, B1, al1, Stp.refl _ _ _, by rw [f0, m0]; exact S1⟩, ?_⟩
    rintro i q σ' H' ⟨rfl, hij, B', al', P', S'⟩
    obtain ⟨w1, w2⟩ := wk B' H' al' σ' _ _ P'.same S'
    by_cases hlt : i < j
    · obtain ⟨hg, hy⟩ := w1 i (by omega)
      obtain ⟨ss', ws, dg, ds⟩ := step i hlt
      refine .inr ⟨hg, fun σ2 H2 => ∃ B2 al2, Stp B1 H1 al1 B2 H2 al2 ∧ Sit K B2 H2 al2 σ2 (f (i + 1)) (m (i + 1)), fun σ2 H2 w => ⟨n - (i + 1), by omega, rfl, hlt, w⟩, fun x H2 y => ?_⟩
      obtain ⟨B2, P2, S2, r2⟩ := hy x H2 y
      refine dg B2 H2 al' σ' _ x _ S2 r2 fun σ3 S3 _ => ?_
      rcases ds with ds | ds
      · exact ds B2 H2 al' σ3 _ S3 fun B4 H4 al4 P4 σ4 S4 => ⟨B4, al4, (P'.trans P2).trans P4, S4⟩
      · exact ds B2 H2 al' σ3 _ S3 fun B4 H4 al4 P4 σ4 S4 => ⟨B4, al4, (P'.trans P2).trans P4, S4⟩
    · have ei : i = j := by omega
      subst ei
      rcases last with ⟨e1, e2⟩ | ⟨hn, ss', ws, dg, ds⟩
      · subst e1 e2
        exact .inl ⟨w2 _ (Nat.le_refl _), k _ _ _ (P1.trans P') σ' S'⟩
      · obtain ⟨hg, hy⟩ := w1 i hn
        refine .inr ⟨hg, fun _ _ => False, fun _ _ z => z.elim, fun x H2 y => ?_⟩
        obtain ⟨B2, P2, S2, r2⟩ := hy x H2 y
        refine dg B2 H2 al' σ' _ x _ S2 r2 fun σ3 S3 _ => ?_
        rcases ds with ⟨r, m', ds, e⟩ | ⟨s', m', ds, e⟩
        · subst e
          exact ds B2 H2 al' σ3 _ S3 fun B4 H4 al4 P4 => k _ _ _ ((P1.trans (P'.trans P2)).trans P4)
        · subst e
          exact ds B2 H2 al' σ3 _ S3 fun B4 H4 al4 P4 => k _ _ _ ((P1.trans (P'.trans P2)).trans P4)
/-- a for that runs through -/
theorem ds_for_all {wi : TI} {g : TG} {tb : TS} {n : Nat} {it : Nat → D} (hi : DI K wi ss mem n it m1) (f : Nat → Sl) (m : Nat → List Mc) (f0 : f 0 = ss) (m0 : m 0 = m1)
    (step : ∀ i, i < n → ∃ ss' ws, DG K g (f i) (it i) ss' ws ∧ DS K tb ss' (m i) (.nx (f (i + 1)) (m (i + 1)))) : DS K (tFor wi g tb) ss mem (.nx (f n) (m n)) :=
  ds_for hi f m f0 m0 n (Nat.le_refl _) (fun i h => by
    obtain ⟨ss', ws, a, b⟩ := step i h
    exact ⟨ss', ws, a, .inl b⟩) (.inl ⟨rfl, rfl⟩)
end
end DL
end
section
set_option Elab.async false
set_option linter.all false
set_option maxRecDepth 100000
namespace DL
open PySem PySem.Spec PyProof.Rows L2
section
variable {K : PySem.W.Frag} {ss ss1 ss2 : Sl} {mem m1 m2 m3 m4 : List Mc} {ta tb tc te : TE} {i j : Int} {d e : D} {r r' : Vl} {t u : TS} {out : Out}
/-! ### comprehensions -/
def wipeS (ss : Sl) : List Nat → Sl
  | [] => ss
  | v :: vs => (wipeS ss vs).set v none
theorem Sit.wipe {B H : Hp} {al : List Addr} {σ : L2.St} (S : Sit K B H al σ ss mem) : ∀ vs : List Nat, Sit K B H al (L2.wipe σ vs) (wipeS ss vs) mem
  | [] => S
  | v :: vs => by
    have S1 := Sit.wipe S vs
    refine ⟨S1.sub, ?_, fun i r e => ?_, S1.mlen, S1.mem, S1.nd, S1.there⟩
    · show (List.set _ _ _).length = (List.set _ _ _).length
      rw [List.length_set, List.length_set]
      exact S1.len
    · have e : ((wipeS ss vs).set v none)[i]? = some (some r) := e
      show ∃ x, ((L2.wipe σ vs).set v none)[i]? = some (some x) ∧ _
      by_cases h : v = i
      · subst h
        by_cases hl : v < (wipeS ss vs).length
        · rw [List.getElem?_set_self hl] at e
          cases e
        · rw [List.getElem?_eq_none (by rw [List.length_set]; omega)] at e
          cases e
      · rw [List.getElem?_set_ne h] at e ⊢
        exact S1.slot i r e
/-- a list that stands beside the situation -/
structure Side (B H : Hp) (al : List Addr) (p : Addr) (xs : List V) : Prop where
  at_ : H p = some (.lst xs)
  nb : B p = none
  nal : p ∉ al
theorem Side.step {B H B' H' : Hp} {al al' : List Addr} {p : Addr} {xs : List V} (s : Side B H al p xs) (P : Stp B H al B' H' al') : Side B' H' al' p xs := by
  have hn : H p ≠ none := by rw [s.at_]; exact fun z => nomatch z
  refine ⟨P.frame _ _ s.at_ s.nal, ?_, fun z => ?_⟩
  · cases q : B' p with
    | none => rfl
    | some o =>
      rcases P.fresh p (by rw [q]; exact fun z => nomatch z) with z | z | z | ⟨ys, z⟩
      · exact absurd s.nb z
      · exact absurd z hn
      · exact absurd z s.nal
      · rw [s.at_] at z
        cases z
  · obtain ⟨ex, q, hx⟩ := P.ext
    rw [q] at z
    rcases List.mem_append.mp z with z | z
    · exact s.nal z
    · exact hn (hx p z)
theorem Sit.poke {B H : Hp} {al : List Addr} {σ : L2.St} {p : Addr} {xs : List V} {o : HO} (S : Sit K B H al σ ss mem) (s : Side B H al p xs) : Sit K B (upd H p o) al σ ss mem := by
  have na : ∀ a ∈ al, a ≠ p := fun a h z => s.nal (z ▸ h)
  refine ⟨fun b u e => ?_, S.len, S.slot, S.mlen, fun n a m h1 h2 => ?_, S.nd, fun a h => ?_⟩
  · rw [upd_ne (ne_of_none e s.nb)]
    exact S.sub b u e
  · have q := S.mem n a m h1 h2
    have ha := na a (List.mem_of_getElem? h1)
    cases m with
    | gone => trivial
    | lst ds =>
      obtain ⟨b0, xs, h3, h4⟩ := q
      exact ⟨b0, xs, by rw [upd_ne ha]; exact h3, h4⟩
    | obj C fs =>
      obtain ⟨b0, dx, fv, h3, h4⟩ := q
      exact ⟨b0, dx, fv, by rw [upd_ne ha]; exact h3, h4⟩
    | dic ds =>
      obtain ⟨b0, kv, h3, h4⟩ := q
      exact ⟨b0, kv, by rw [upd_ne ha]; exact h3, h4⟩
  · rw [upd_ne (na a h)]
    exact S.there a h
theorem Stp.poke {B H B' H' : Hp} {al al' : List Addr} {p : Addr} {o : HO} (P : Stp B H al B' H' al') (np : H p = none) : Stp B H al B' (upd H' p o) al' := by
  have hn : ∀ b, H b ≠ none → b ≠ p := fun b h e => h (e ▸ np)
  refine ⟨P.same, fun b u e z => ?_, P.fresh, fun b h => ?_, P.ext⟩
  · rw [upd_ne (ne_of_none e np)]
    exact P.frame b u e z
  · rw [upd_ne (hn b h)]
    exact P.stay b h
/-- the side list becomes data -/
theorem Sit.side {B0 H0 B H : Hp} {al0 al : List Addr} {σ : L2.St} {p : Addr} {xs : List V} {ds : List D} (S : Sit K B H al σ ss mem) (P : Stp B0 H0 al0 B H al) (s : Side B H al p xs) (np : H0 p = none) (r : RepAll K B xs ds) :
    Stp B0 H0 al0 (upd B p (.lst xs)) H al ∧ Sit K (upd B p (.lst xs)) H al σ ss mem ∧ Rep K (upd B p (.lst xs)) (.ref p) (.lst ds) := by
  have sB : Same B (upd B p (.lst xs)) := fun b u e => by rw [upd_ne (ne_of_none e s.nb)]; exact e
  have na : ∀ a ∈ al, a ≠ p := fun a h z => s.nal (z ▸ h)
  have P1 : Stp B H al (upd B p (.lst xs)) H al → True := fun _ => trivial
  refine ⟨⟨P.same.trans sB, P.frame, fun b h => ?_, P.stay, P.ext⟩, ⟨fun b u e => ?_, S.len, fun i r e => ?_, S.mlen, fun n a m h1 h2 => ?_, S.nd, S.there⟩, .lst (SqL.of upd_same) (RepAll.mono sB ds r)⟩
  · by_cases e : b = p
    · exact .inr (.inl (e ▸ np))
    · rw [upd_ne e] at h
      exact P.fresh b h
  · by_cases q : b = p
    · subst q
      rw [upd_same] at e
      exact s.at_.trans e
    · rw [upd_ne q] at e
      exact S.sub b u e
  · obtain ⟨v, h1, h2⟩ := S.slot i r e
    refine ⟨v, h1, ?_⟩
    cases r with
    | dat d => exact Rep.mono sB d h2
    | own n => exact h2
    | tl ds =>
      obtain ⟨x, xs, h3, h4, h5⟩ := h2
      exact ⟨x, xs, h3, sB _ _ h4, RepAll.mono sB ds h5⟩
    | lk ds =>
      obtain ⟨x, o, xs, h3, h4, h5⟩ := h2
      exact ⟨x, o, xs, h3, sB _ _ h4, RepKv.mono sB ds h5⟩
  · have q := S.mem n a m h1 h2
    have ha := na a (List.mem_of_getElem? h1)
    cases m with
    | gone => trivial
    | lst ds =>
      obtain ⟨b0, xs, h3, h4⟩ := q
      exact ⟨by rw [upd_ne ha]; exact b0, xs, h3, RepAll.mono sB ds h4⟩
    | obj C fs =>
      obtain ⟨b0, dx, fv, h3, h4⟩ := q
      exact ⟨by rw [upd_ne ha]; exact b0, dx, fv, h3, RepFs.mono sB fs h4⟩
    | dic ds =>
      obtain ⟨b0, kv, h3, h4⟩ := q
      exact ⟨by rw [upd_ne ha]; exact b0, kv, h3, RepKv.mono sB ds h4⟩
/-- the side list becomes an own one -/
theorem Sit.sideOwn {B0 H0 B H : Hp} {al0 al : List Addr} {σ : L2.St} {p : Addr} {xs : List V} {ds : List D} (S : Sit K B H al σ ss mem) (P : Stp B0 H0 al0 B H al) (s : Side B H al p xs) (np : H0 p = none) (r : RepAll K B xs ds) :
    Stp B0 H0 al0 B H (al ++ [p]) ∧ Sit K B H (al ++ [p]) σ ss (mem ++ [.lst ds]) := by
  obtain ⟨ex, q, hx⟩ := P.ext
  refine ⟨⟨P.same, P.frame, P.fresh, P.stay, ex ++ [p], by rw [q, List.append_assoc], fun a h => ?_⟩, ⟨S.sub, S.len, fun i r e => ?_, by rw [List.length_append, List.length_append, S.mlen]; rfl, fun n a m h1 h2 => ?_, ?_, fun a h => ?_⟩⟩
  · rcases List.mem_append.mp h with z | z
    · exact hx a z
    · rw [List.mem_singleton] at z
      exact z ▸ np
  · obtain ⟨v, h1, h2⟩ := S.slot i r e
    refine ⟨v, h1, ?_⟩
    cases r with
    | dat d => exact h2
    | own n =>
      obtain ⟨x, h3, h4⟩ := h2
      exact ⟨x, by rw [List.getElem?_append_left (List.getElem?_eq_some_iff.mp h3).1]; exact h3, h4⟩
    | tl ds => exact h2
    | lk ds => exact h2
  · by_cases hlt : n < al.length
    · rw [List.getElem?_append_left hlt] at h1
      rw [List.getElem?_append_left (S.mlen ▸ hlt)] at h2
      exact S.mem n a m h1 h2
    · have l1 : n < (al ++ [p]).length := (List.getElem?_eq_some_iff.mp h1).1
      rw [List.length_append, List.length_singleton] at l1
      have en : n = al.length := by omega
      subst en
      rw [List.getElem?_append_right (Nat.le_refl _), Nat.sub_self] at h1
      rw [List.getElem?_append_right (by rw [S.mlen]; exact Nat.le_refl _), S.mlen, Nat.sub_self] at h2
      have e1 : p = a := Option.some.inj h1
      have e2 : Mc.lst ds = m := Option.some.inj h2
      subst e1 e2
      exact ⟨s.nb, xs, s.at_, r⟩
  · rw [List.nodup_append]
    refine ⟨S.nd, List.Pairwise.cons (fun _ z => by cases z) .nil, fun a h b h2 e => ?_⟩
    rw [List.mem_singleton] at h2
    exact s.nal (h2 ▸ e ▸ h)
  · rcases List.mem_append.mp h with h | h
    · exact S.there a h
    · rw [List.mem_singleton] at h
      rw [h, s.at_]
      exact fun z => nomatch z
/-- one turn of a comprehension: from acc and these own objects to acc' -/
def LcTurn (K : PySem.W.Frag) (g : TG) (tt : TT) (te : TE) (vs : List Nat) (s0 : Sl) (d : D) (acc : List D) (m : List Mc) (acc' : List D) (m' : List Mc) : Prop :=
  ∃ s1 ws, DG K g (wipeS s0 vs) d s1 ws ∧ (∀ w ∈ ws, w ∈ vs) ∧ ((∃ mt x, DB K tt s1 m true mt ∧ DT K te s1 mt (.dat x) m' ∧ acc' = acc ++ [x]) ∨ (DB K tt s1 m false m' ∧ acc' = acc))
theorem lc_all {wi : TI} {g : TG} {tt : TT} {vs : List Nat} {n : Nat} {it : Nat → D} (hi : DI K wi ss mem n it m1) (acc : Nat → List D) (m : Nat → List Mc) (a0 : acc 0 = []) (m0 : m 0 = m1) (hlen : ∀ i, i < n → (acc i).length < 16777216)
    (step : ∀ i, i < n → LcTurn K g tt te vs ss (it i) (acc i) (m i) (acc (i + 1)) (m (i + 1))) :
    ∀ (B H : Hp) (al : List Addr) (σ : L2.St) (Q : VK), Sit K B H al σ ss mem → (∀ (p : Addr) B' H' al' xs, (∃ H1, ∃ B1 al1, Stp B H al B1 H1 al1 ∧ H1 p = none ∧ Stp B1 H1 al1 B' H' al') → Sit K B' H' al' σ ss (m n) → Side B' H' al' p xs → RepAll K B' xs (acc n) → Q (.ref p) H') → tLc wi g tt te vs σ H Q := fun B H al σ Q S k =>
  hi B H al σ _ S fun B1 H1 al1 J P1 S1 wk p np => by
    have nb : B1 p = none := S1.sub.free np
    have nal : p ∉ al1 := fun h => S1.there p h np
    have S1' : Sit K B1 (upd H1 p (.lst [])) al1 σ ss m1 := by
      have sH : Same H1 (upd H1 p (.lst [])) := fun b u e => by rw [upd_ne (ne_of_none e np)]; exact e
      exact S1.back (mem := m1) ((Stp.refl B1 H1 al1).poke np) ⟨fun b u e => sH b u (S1.sub b u e), S1.len, S1.slot, S1.mlen, fun n a m h1 h2 => by
        have q := S1.mem n a m h1 h2
        cases m with
        | gone => trivial
        | lst ds =>
          obtain ⟨b0, xs, h3, h4⟩ := q
          exact ⟨b0, xs, sH _ _ h3, h4⟩
        | obj C fs =>
          obtain ⟨b0, dx, fv, h3, h4⟩ := q
          exact ⟨b0, dx, fv, sH _ _ h3, h4⟩
        | dic ds =>
          obtain ⟨b0, kv, h3, h4⟩ := q
          exact ⟨b0, kv, sH _ _ h3, h4⟩, S1.nd, fun a h => by
            obtain ⟨o, q⟩ := Option.ne_none_iff_exists'.mp (S1.there a h)
            rw [sH a o q]
            exact fun z => nomatch z⟩
    refine ⟨fun i k H' => k = n - i ∧ i ≤ n ∧ ∃ B' al' xs, Stp B1 H1 al1 B' H' al' ∧ Sit K B' H' al' σ ss (m i) ∧ Side B' H' al' p xs ∧ RepAll K B' xs (acc i), ⟨n, by simp, Nat.zero_le _, B1, al1, [], (Stp.refl _ _ _).poke np, by rw [m0]; exact S1', ⟨upd_same, nb, nal⟩, by rw [a0]; exact .nil⟩, ?_⟩
    rintro i q H' ⟨rfl, hin, B', al', xs, P', S', sd, ra⟩
    obtain ⟨w1, w2⟩ := wk B' H' al' (wipe σ vs) _ _ P'.same (S'.wipe vs)
    by_cases hlt : i < n
    · obtain ⟨hg, hy⟩ := w1 i hlt
      obtain ⟨s1, ws, dg, hws, hcase⟩ := step i hlt
      refine .inr ⟨hg, fun H2 => ∃ B' al' xs, Stp B1 H1 al1 B' H2 al' ∧ Sit K B' H2 al' σ ss (m (i + 1)) ∧ Side B' H2 al' p xs ∧ RepAll K B' xs (acc (i + 1)), fun H2 w => ⟨n - (i + 1), by omega, rfl, hlt, w⟩, fun x H2 y => ?_⟩
      obtain ⟨B2, P2, S2, r2⟩ := hy x H2 y
      refine dg B2 H2 al' _ _ x _ S2 r2 fun σ3 S3 hwp => ⟨?_, ?_⟩
      · rw [hwp vs hws]
        apply List.ext_getElem?
        intro j
        by_cases hj : j ∈ vs
        · rw [wipe_in hj, wipe_in hj, wipe_length]
        · rw [wipe_out hj]
      · rcases hcase with ⟨mt, y, db, dt, ea⟩ | ⟨db, ea⟩
        · refine db B2 H2 al' σ3 _ S3 fun B4 H4 al4 P4 S4 => iteT (dt B4 H4 al4 σ3 _ S4 fun B5 H5 al5 v P5 S5 r5 => ?_)
          have PP := (P2.trans P4).trans P5
          have sd5 := sd.step PP
          refine ⟨xs, sd5.at_, by rw [ra.len, sizeLine_eq]; exact hlen i hlt, B5, al5, xs ++ [v], (P'.trans PP).poke np, ?_, ⟨upd_same, sd5.nb, sd5.nal⟩, ?_⟩
          · exact (S'.back PP S5).poke sd5
          · rw [ea]
            exact (RepAll.mono PP.same _ ra).append (.cons r5 .nil)
        · refine db B2 H2 al' σ3 _ S3 fun B4 H4 al4 P4 S4 => iteF ?_
          have PP := P2.trans P4
          exact ⟨B4, al4, xs, P'.trans PP, S'.back PP S4, sd.step PP, by rw [ea]; exact RepAll.mono PP.same _ ra⟩
    · have ei : i = n := by omega
      subst ei
      exact .inl ⟨w2 _ (Nat.le_refl _), k p B' H' al' xs ⟨H1, B1, al1, P1, np, P'⟩ S' sd ra⟩
/-- a list comprehension, its list as data -/
theorem dt_lc {wi : TI} {g : TG} {tt : TT} {vs : List Nat} {n : Nat} {it : Nat → D} (hi : DI K wi ss mem n it m1) (acc : Nat → List D) (m : Nat → List Mc) (a0 : acc 0 = []) (m0 : m 0 = m1) (hlen : ∀ i, i < n → (acc i).length < 16777216)
    (step : ∀ i, i < n → LcTurn K g tt te vs ss (it i) (acc i) (m i) (acc (i + 1)) (m (i + 1))) : DT K (tLc wi g tt te vs) ss mem (.dat (.lst (acc n))) (m n) := fun B H al σ Q S k =>
  lc_all hi acc m a0 m0 hlen step B H al σ Q S fun p B' H' al' xs ⟨H1, B1, al1, P1, np, P'⟩ S' sd ra => by
    obtain ⟨P2, S2, r2⟩ := S'.side P' sd np ra
    exact k _ _ _ _ (P1.trans P2) S2 r2
/-- .. as a tracked list -/
theorem dt_lcT {wi : TI} {g : TG} {tt : TT} {vs : List Nat} {n : Nat} {it : Nat → D} (hi : DI K wi ss mem n it m1) (acc : Nat → List D) (m : Nat → List Mc) (a0 : acc 0 = []) (m0 : m 0 = m1) (hlen : ∀ i, i < n → (acc i).length < 16777216)
    (step : ∀ i, i < n → LcTurn K g tt te vs ss (it i) (acc i) (m i) (acc (i + 1)) (m (i + 1))) : DT K (tLc wi g tt te vs) ss mem (.tl (acc n)) (m n) := fun B H al σ Q S k =>
  lc_all hi acc m a0 m0 hlen step B H al σ Q S fun p B' H' al' xs ⟨H1, B1, al1, P1, np, P'⟩ S' sd ra => by
    obtain ⟨P2, S2, r2⟩ := S'.side P' sd np ra
    have sB : Same B' (upd B' p (.lst xs)) := fun b u e => by rw [upd_ne (ne_of_none e sd.nb)]; exact e
    exact k _ _ _ _ (P1.trans P2) S2 ⟨p, xs, rfl, upd_same, RepAll.mono sB _ ra⟩
/-- .. as an own list -/
theorem dt_lcO {wi : TI} {g : TG} {tt : TT} {vs : List Nat} {n : Nat} {it : Nat → D} (hi : DI K wi ss mem n it m1) (acc : Nat → List D) (m : Nat → List Mc) (a0 : acc 0 = []) (m0 : m 0 = m1) (hlen : ∀ i, i < n → (acc i).length < 16777216)
    (step : ∀ i, i < n → LcTurn K g tt te vs ss (it i) (acc i) (m i) (acc (i + 1)) (m (i + 1))) : DT K (tLc wi g tt te vs) ss mem (.own (m n).length) (m n ++ [.lst (acc n)]) := fun B H al σ Q S k =>
  lc_all hi acc m a0 m0 hlen step B H al σ Q S fun p B' H' al' xs ⟨H1, B1, al1, P1, np, P'⟩ S' sd ra => by
    obtain ⟨P2, S2⟩ := S'.sideOwn P' sd np ra
    exact k _ _ _ _ (P1.trans P2) S2 (own_last S' p)
theorem db_yes : DB K tYes ss mem true mem := fun B H al σ Q S k => k _ _ _ (Stp.refl _ _ _) S
/-- [f x for x in data], nothing else touched, no test: the element by place -/
theorem dt_lcMap {wi : TI} {g : TG} {vs : List Nat} {n : Nat} {it : Nat → D} (hi : DI K wi ss mem n it m1) (f : Nat → D) (hn : n ≤ 16777216)
    (step : ∀ i, i < n → ∃ s1 ws, DG K g (wipeS ss vs) (it i) s1 ws ∧ (∀ w ∈ ws, w ∈ vs) ∧ DT K te s1 m1 (.dat (f i)) m1) : DT K (tLc wi g tYes te vs) ss mem (.dat (.lst ((List.range n).map f))) m1 := by
  have h := dt_lc (te := te) (tt := tYes) (vs := vs) (g := g) hi (fun i => (List.range i).map f) (fun _ => m1) rfl rfl (fun i h => by rw [List.length_map, List.length_range]; omega) fun i h => by
    obtain ⟨s1, ws, a, b, c⟩ := step i h
    exact ⟨s1, ws, a, b, .inl ⟨m1, f i, db_yes, c, by rw [List.range_succ, List.map_append]; rfl⟩⟩
  exact h
theorem dt_lcMapT {wi : TI} {g : TG} {vs : List Nat} {n : Nat} {it : Nat → D} (hi : DI K wi ss mem n it m1) (f : Nat → D) (hn : n ≤ 16777216)
    (step : ∀ i, i < n → ∃ s1 ws, DG K g (wipeS ss vs) (it i) s1 ws ∧ (∀ w ∈ ws, w ∈ vs) ∧ DT K te s1 m1 (.dat (f i)) m1) : DT K (tLc wi g tYes te vs) ss mem (.tl ((List.range n).map f)) m1 := by
  have h := dt_lcT (te := te) (tt := tYes) (vs := vs) (g := g) hi (fun i => (List.range i).map f) (fun _ => m1) rfl rfl (fun i h => by rw [List.length_map, List.length_range]; omega) fun i h => by
    obtain ⟨s1, ws, a, b, c⟩ := step i h
    exact ⟨s1, ws, a, b, .inl ⟨m1, f i, db_yes, c, by rw [List.range_succ, List.map_append]; rfl⟩⟩
  exact h
/-- with a test -/
theorem dt_lcIf {wi : TI} {g : TG} {tt : TT} {vs : List Nat} {n : Nat} {it : Nat → D} (hi : DI K wi ss mem n it m1) (f : Nat → D) (p : Nat → Bool) (hn : n ≤ 16777216)
    (step : ∀ i, i < n → ∃ s1 ws, DG K g (wipeS ss vs) (it i) s1 ws ∧ (∀ w ∈ ws, w ∈ vs) ∧ DB K tt s1 m1 (p i) m1 ∧ (p i = true → DT K te s1 m1 (.dat (f i)) m1)) :
    DT K (tLc wi g tt te vs) ss mem (.dat (.lst (((List.range n).filter p).map f))) m1 := by
  have h := dt_lc (te := te) (tt := tt) (vs := vs) (g := g) hi (fun i => ((List.range i).filter p).map f) (fun _ => m1) rfl rfl (fun i h => by
      have := List.length_filter_le p (List.range i)
      rw [List.length_range] at this
      rw [List.length_map]
      omega) fun i h => by
    obtain ⟨s1, ws, a, b, c, dd⟩ := step i h
    refine ⟨s1, ws, a, b, ?_⟩
    cases q : p i with
    | true =>
      rw [q] at c
      exact .inl ⟨m1, f i, c, dd q, by rw [List.range_succ, List.filter_append, List.map_append]; simp [q]⟩
    | false =>
      rw [q] at c
      exact .inr ⟨c, by rw [List.range_succ, List.filter_append, List.map_append]; simp [q]⟩
  exact h
theorem yes_ok {Q : Bool → Hp → Prop} {σ : L2.St} {H : Hp} (h : Q true H) : tYes σ H Q := h
/-- [e for a in .. for b in ..], no tests, nothing else touched -/
theorem dt_lc2 {wi wi1 : TI} {g g1 : TG} {vs vs1 : List Nat} {n n1 : Nat} {it : Nat → D} {it1 : Nat → Nat → D} (hi : DI K wi ss mem n it m1) (f : Nat → Nat → D) (hn : n * n1 ≤ 16777216) (hv : ∀ v ∈ vs1, v ∈ vs)
    (step : ∀ i, i < n → ∃ s1 ws, DG K g (wipeS ss vs) (it i) s1 ws ∧ (∀ w ∈ ws, w ∈ vs) ∧ DI K wi1 s1 m1 n1 (it1 i) m1 ∧
      ∀ j, j < n1 → ∃ s2 ws1, DG K g1 (wipeS s1 vs1) (it1 i j) s2 ws1 ∧ (∀ w ∈ ws1, w ∈ vs1) ∧ DT K te s2 m1 (.dat (f i j)) m1) :
    DT K (tLc2 wi g tYes wi1 g1 tYes te vs vs1) ss mem (.dat (.lst ((List.range n).flatMap fun i => (List.range n1).map (f i)))) m1 := fun B H al σ Q S k =>
  hi B H al σ _ S fun B1 H1 al1 J P1 S1 wk p np => by
    have nb : B1 p = none := S1.sub.free np
    have nal : p ∉ al1 := fun h => S1.there p h np
    have S1' : Sit K B1 (upd H1 p (.lst [])) al1 σ ss m1 := by
      have sH : Same H1 (upd H1 p (.lst [])) := fun b u e => by rw [upd_ne (ne_of_none e np)]; exact e
      exact ⟨fun b u e => sH b u (S1.sub b u e), S1.len, S1.slot, S1.mlen, fun n a m h1 h2 => by
        have q := S1.mem n a m h1 h2
        cases m with
        | gone => trivial
        | lst ds =>
          obtain ⟨b0, xs, h3, h4⟩ := q
          exact ⟨b0, xs, sH _ _ h3, h4⟩
        | obj C fs =>
          obtain ⟨b0, dx, fv, h3, h4⟩ := q
          exact ⟨b0, dx, fv, sH _ _ h3, h4⟩
        | dic ds =>
          obtain ⟨b0, kv, h3, h4⟩ := q
          exact ⟨b0, kv, sH _ _ h3, h4⟩, S1.nd, fun a h => by
            obtain ⟨o, q⟩ := Option.ne_none_iff_exists'.mp (S1.there a h)
            rw [sH a o q]
            exact fun z => nomatch z⟩
    have wipe2 : ∀ (τ τ' : L2.St) (us : List Nat), wipe τ' us = wipe (wipe τ us) us → wipe τ' us = wipe τ us := fun τ τ' us h => by
      rw [h]
      apply List.ext_getElem?
      intro j
      by_cases hj : j ∈ us
      · rw [wipe_in hj, wipe_in hj, wipe_length]
      · rw [wipe_out hj]
    have lenAcc : ∀ i, ((List.range i).flatMap fun i => (List.range n1).map (f i)).length = i * n1 := fun i => by
      induction i with
      | zero => simp
      | succ i ih =>
        rw [List.range_succ, List.flatMap_append, List.length_append, ih, Nat.succ_mul]
        simp
    refine ⟨fun i k H' => k = n - i ∧ i ≤ n ∧ ∃ B' al' xs, Stp B1 H1 al1 B' H' al' ∧ Sit K B' H' al' σ ss m1 ∧ Side B' H' al' p xs ∧ RepAll K B' xs ((List.range i).flatMap fun i => (List.range n1).map (f i)), ⟨n, by simp, Nat.zero_le _, B1, al1, [], (Stp.refl _ _ _).poke np, S1', ⟨upd_same, nb, nal⟩, .nil⟩, ?_⟩
    rintro i q H' ⟨rfl, hin, B', al', xs, P', S', sd, ra⟩
    obtain ⟨w1, w2⟩ := wk B' H' al' (wipe σ vs) _ _ P'.same (S'.wipe vs)
    by_cases hlt : i < n
    · obtain ⟨hg, hy⟩ := w1 i hlt
      obtain ⟨s1, ws, dg, hws, di1, step1⟩ := step i hlt
      refine .inr ⟨hg, fun H2 => ∃ B' al' xs, Stp B1 H1 al1 B' H2 al' ∧ Sit K B' H2 al' σ ss m1 ∧ Side B' H2 al' p xs ∧ RepAll K B' xs ((List.range (i + 1)).flatMap fun i => (List.range n1).map (f i)), fun H2 w => ⟨n - (i + 1), by omega, rfl, hlt, w⟩, fun x H2 y => ?_⟩
      obtain ⟨B2, P2, S2, r2⟩ := hy x H2 y
      refine dg B2 H2 al' _ _ x _ S2 r2 fun σ3 S3 hwp => ⟨wipe2 σ σ3 vs (hwp vs hws), ?_⟩
      refine yes_ok ?_
      rw [if_pos rfl]
      refine di1 B2 H2 al' σ3 _ S3 fun B3 H3 al3 J1 P3 S3' wk1 => ?_
      refine ⟨fun j k H' => k = n1 - j ∧ j ≤ n1 ∧ ∃ B' al' xs, Stp B1 H1 al1 B' H' al' ∧ Same B3 B' ∧ Sit K B' H' al' σ ss m1 ∧ Sit K B' H' al' σ3 s1 m1 ∧ Side B' H' al' p xs ∧
          RepAll K B' xs (((List.range i).flatMap fun i => (List.range n1).map (f i)) ++ (List.range j).map (f i)),
        ⟨n1, by simp, Nat.zero_le _, B3, al3, xs, P'.trans (P2.trans P3), Same.refl _, S'.back (P2.trans P3) S3', S3', sd.step (P2.trans P3), by rw [List.range_zero, List.map_nil, List.append_nil]; exact RepAll.mono (P2.trans P3).same _ ra⟩, ?_⟩
      rintro j q H4 ⟨rfl, hjn, B4, al4, ys, PA, PB, SA, SB, sd4, ra4⟩
      obtain ⟨u1, u2⟩ := wk1 B4 H4 al4 (wipe σ3 vs1) _ _ PB (SB.wipe vs1)
      by_cases hjl : j < n1
      · obtain ⟨hg1, hy1⟩ := u1 j hjl
        obtain ⟨s2, ws1, dg1, hws1, dt⟩ := step1 j hjl
        refine .inr ⟨hg1, fun H5 => ∃ B' al' xs, Stp B1 H1 al1 B' H5 al' ∧ Same B3 B' ∧ Sit K B' H5 al' σ ss m1 ∧ Sit K B' H5 al' σ3 s1 m1 ∧ Side B' H5 al' p xs ∧
          RepAll K B' xs (((List.range i).flatMap fun i => (List.range n1).map (f i)) ++ (List.range (j + 1)).map (f i)), fun H5 w => ⟨n1 - (j + 1), by omega, rfl, hjl, w⟩, fun x5 H5 y5 => ?_⟩
        obtain ⟨B5, P5, S5, r5⟩ := hy1 x5 H5 y5
        refine dg1 B5 H5 al4 _ _ x5 _ S5 r5 fun σ6 S6 hwp1 => And.intro (wipe2 σ3 σ6 vs1 (hwp1 vs1 hws1)) ?_
        refine yes_ok ?_
        rw [if_pos rfl]
        refine dt B5 H5 al4 σ6 _ S6 fun B6 H6 al6 v P6 S7 r6 => ?_
        have PP := P5.trans P6
        have sd6 := sd4.step PP
        have hl : (((List.range i).flatMap fun i => (List.range n1).map (f i)) ++ (List.range j).map (f i)).length < 16777216 := by
          rw [List.length_append, lenAcc, List.length_map, List.length_range]
          have h1 : (i + 1) * n1 ≤ n * n1 := Nat.mul_le_mul_right _ hlt
          rw [Nat.succ_mul] at h1
          omega
        refine ⟨ys, sd6.at_, by rw [ra4.len, sizeLine_eq]; exact hl, B6, al6, ys ++ [v], (PA.trans PP).poke np, PB.trans PP.same, (SA.back PP S7).poke sd6, (SB.back PP S7).poke sd6, ⟨upd_same, sd6.nb, sd6.nal⟩, ?_⟩
        · rw [List.range_succ, List.map_append, ← List.append_assoc]
          exact (RepAll.mono PP.same _ ra4).append (.cons r6 .nil)
      · have ej : j = n1 := by omega
        subst ej
        refine .inl ⟨u2 _ (Nat.le_refl _), B4, al4, ys, PA, SA, sd4, ?_⟩
        rw [List.range_succ, List.flatMap_append]
        simpa using ra4
    · have ei : i = n := by omega
      subst ei
      obtain ⟨P2, S2, r2⟩ := S'.side P' sd np ra
      exact .inl ⟨w2 _ (Nat.le_refl _), k _ _ _ _ (P1.trans P2) S2 r2⟩
end
end DL
end
section
set_option Elab.async false
set_option linter.all false
set_option maxRecDepth 100000
namespace DL
open PySem PySem.Spec PyProof.Rows L2
/-! ### promises -/
/-- args, own objects; the answer, own objects behind it -/
abbrev Rel := List Vl → List Mc → D → List Mc → Prop
def spD (K : PySem.W.Frag) (n : Nat) (R : Rel) : Sp := fun vs H Q _ => ∃ B al args mem d mem', R args mem d mem' ∧ args.length = n ∧ mem'.length = mem.length ∧ Sit K B H al (vs.map some) (args.map some) mem ∧
  ∀ B' H' v, Stp B H al B' H' al → Sit K B' H' al (vs.map some) (args.map some) mem' → Rep K B' v d → Q v H'
/-- a def that reads data and gives data -/
def pureR (R : List D → D → Prop) : Rel := fun args mem d mem' => ∃ ds, args = ds.map Vl.dat ∧ mem = [] ∧ mem' = [] ∧ R ds d
/-- a def whose first argument is an own object that it may change -/
def ownR (R : Mc → List D → D → Mc → Prop) : Rel := fun args mem d mem' => ∃ m ds m', args = .own 0 :: ds.map Vl.dat ∧ mem = [m] ∧ mem' = [m'] ∧ R m ds d m'
abbrev spP (K : PySem.W.Frag) (n : Nat) (R : List D → D → Prop) : Sp := spD K n (pureR R)
abbrev spO (K : PySem.W.Frag) (n : Nat) (R : Mc → List D → D → Mc → Prop) : Sp := spD K n (ownR R)
section
variable {K : PySem.W.Frag} {ss ss1 ss2 : Sl} {mem m1 m2 m3 m4 : List Mc} {ta tb tc te : TE} {i j : Int} {d e : D} {r r' : Vl} {t u : TS} {out : Out}
theorem pack_slots {B H : Hp} {vs : List V} {ds : List D} (e : Same B H) (r : RepAll K B vs ds) : Sit K B H [] (vs.map some) ((ds.map Vl.dat).map some) [] := by
  refine ⟨e, by rw [List.length_map, List.length_map, List.length_map, r.len], fun i q h => ?_, rfl, fun n a m h _ => by simp at h, .nil, fun a h => by cases h⟩
  rw [List.getElem?_map, List.getElem?_map] at h
  cases hd : ds[i]? with
  | none => rw [hd] at h; cases h
  | some d =>
    rw [hd] at h
    cases h
    obtain ⟨v, h1, h2⟩ := r.get hd
    exact ⟨v, by rw [List.getElem?_map, h1]; rfl, h2⟩
/-- what a callee that changes none of the own objects leaves -/
theorem Sit.after {B H B' H' : Hp} {al : List Addr} {σ : L2.St} (S : Sit K B H al σ ss mem) (P : Stp B H [] B' H' []) (sub : Same B' H') : Stp B H al B' H' al ∧ Sit K B' H' al σ ss mem := by
  have PP : Stp B H al B' H' al := ⟨P.same, fun b o e _ => P.frame b o e (fun z => by cases z), fun b h => by
    rcases P.fresh b h with z | z | z | z
    · exact .inl z
    · exact .inr (.inl z)
    · exact absurd z List.not_mem_nil
    · exact .inr (.inr (.inr z)), P.stay, [], by rw [List.append_nil], fun _ h => by cases h⟩
  refine ⟨PP, sub, S.len, fun i r e => ?_, S.mlen, fun n a m h1 h2 => ?_, S.nd, fun a h => P.stay a (S.there a h)⟩
  · obtain ⟨v, h1, h2⟩ := S.slot i r e
    exact ⟨v, h1, h2.step PP⟩
  · have q := S.mem n a m h1 h2
    have ha := S.there a (List.mem_of_getElem? h1)
    have hb : (∀ ys, H a ≠ some (.tup ys)) → B a = none → B' a = none := fun ht h0 => by
      cases z : B' a with
      | none => rfl
      | some o =>
        rcases P.fresh a (by rw [z]; exact fun z => nomatch z) with y | y | y | ⟨ys, y⟩
        · exact absurd h0 y
        · exact absurd y ha
        · cases y
        · exact absurd y (ht ys)
    cases m with
    | gone => trivial
    | lst ds =>
      obtain ⟨b0, xs, h3, h4⟩ := q
      exact ⟨hb (fun ys z => by rw [h3] at z; cases z) b0, xs, P.frame _ _ h3 (fun z => by cases z), RepAll.mono P.same ds h4⟩
    | obj C fs =>
      obtain ⟨b0, dx, fv, h3, h4⟩ := q
      exact ⟨hb (fun ys z => by rw [h3] at z; cases z) b0, dx, fv, P.frame _ _ h3 (fun z => by cases z), RepFs.mono P.same fs h4⟩
    | dic ds =>
      obtain ⟨b0, kv, h3, h4⟩ := q
      exact ⟨hb (fun ys z => by rw [h3] at z; cases z) b0, kv, P.frame _ _ h3 (fun z => by cases z), RepKv.mono P.same ds h4⟩
/-- what a callee leaves that changes the n-th own object alone -/
theorem Sit.after1 {B H B' H' : Hp} {al : List Addr} {σ : L2.St} {n : Nat} {a : Addr} {m' : Mc} (S : Sit K B H al σ ss mem) (hn : al[n]? = some a) (P : Stp B H [a] B' H' [a]) (sub : Same B' H') (hm : McOk K B' H' a m') : Stp B H al B' H' al ∧ Sit K B' H' al σ ss (mem.set n m') := by
  have ha : a ∈ al := List.mem_of_getElem? hn
  have PP : Stp B H al B' H' al := ⟨P.same, fun b o e z => P.frame b o e (fun y => z (by rw [List.mem_singleton] at y; exact y ▸ ha)), fun b h => by
    rcases P.fresh b h with z | z | z | z
    · exact .inl z
    · exact .inr (.inl z)
    · rw [List.mem_singleton] at z
      exact .inr (.inr (.inl (z ▸ ha)))
    · exact .inr (.inr (.inr z)), P.stay, [], by rw [List.append_nil], fun _ h => by cases h⟩
  refine ⟨PP, sub, S.len, fun i r e => ?_, by rw [List.length_set]; exact S.mlen, fun n' a' m h1 h2 => ?_, S.nd, fun a h => P.stay a (S.there a h)⟩
  · obtain ⟨v, h1, h2⟩ := S.slot i r e
    exact ⟨v, h1, h2.step PP⟩
  · by_cases e : n' = n
    · subst e
      have ea : a' = a := Option.some.inj (h1.symm.trans hn)
      have hl : n' < mem.length := by
        have := (List.getElem?_eq_some_iff.mp h2).1
        rwa [List.length_set] at this
      rw [List.getElem?_set_self hl] at h2
      have em : m' = m := Option.some.inj h2
      rw [ea, ← em]
      exact hm
    · rw [List.getElem?_set_ne (Ne.symm e)] at h2
      have q := S.mem n' a' m h1 h2
      have na : a' ≠ a := fun z => e (nd_ix S.nd h1 (z ▸ hn))
      have na' : a' ∉ [a] := fun z => na (by rw [List.mem_singleton] at z; exact z)
      have hat := S.there a' (List.mem_of_getElem? h1)
      have hb : (∀ ys, H a' ≠ some (.tup ys)) → B a' = none → B' a' = none := fun ht h0 => by
        cases z : B' a' with
        | none => rfl
        | some o =>
          rcases P.fresh a' (by rw [z]; exact fun z => nomatch z) with y | y | y | ⟨ys, y⟩
          · exact absurd h0 y
          · exact absurd y hat
          · exact absurd y na'
          · exact absurd y (ht ys)
      cases m with
      | gone => trivial
      | lst ds =>
        obtain ⟨b0, xs, h3, h4⟩ := q
        exact ⟨hb (fun ys z => by rw [h3] at z; cases z) b0, xs, P.frame _ _ h3 na', RepAll.mono P.same ds h4⟩
      | obj C fs =>
        obtain ⟨b0, dx, fv, h3, h4⟩ := q
        exact ⟨hb (fun ys z => by rw [h3] at z; cases z) b0, dx, fv, P.frame _ _ h3 na', RepFs.mono P.same fs h4⟩
      | dic ds =>
        obtain ⟨b0, kv, h3, h4⟩ := q
        exact ⟨hb (fun ys z => by rw [h3] at z; cases z) b0, kv, P.frame _ _ h3 na', RepKv.mono P.same ds h4⟩
/-- f(..) of data -/
theorem dt_call {n : Nat} {R : List D → D → Prop} {E : XK} {t : TA} {ds : List D} (h : DA K t ss mem ds m1) (hR : R ds d) (hn : ds.length = n := by rfl) : DT K (tCall (spP K n R) [] E t) ss mem (.dat d) m1 := fun B H al σ Q S k =>
  h B H al σ _ S fun B1 H1 al1 vs P1 S1 r1 => by
    refine ⟨B1, [], ds.map Vl.dat, [], d, [], ⟨ds, rfl, rfl, rfl, hR⟩, by rw [List.length_map]; exact hn, rfl, ?_, fun B' H' v P S' rv => ?_⟩
    · rw [List.append_nil]
      exact pack_slots S1.sub r1
    · obtain ⟨P2, S2⟩ := S1.after P S'.sub
      exact k _ _ _ _ (P1.trans P2) S2 rv
/-- f(x, ..), x own -/
theorem dt_callO {n p : Nat} {R : Mc → List D → D → Mc → Prop} {E : XK} {t : TA} {ds : List D} {m m' : Mc} (h : DAO K t ss mem p ds m1) (hm : m1[p]? = some m) (hg : m ≠ .gone) (hR : R m ds d m') (hn : ds.length + 1 = n := by rfl) : DT K (tCall (spO K n R) [] E t) ss mem (.dat d) (m1.set p m') := fun B H al σ Q S k =>
  h B H al σ _ S fun B1 H1 al1 v vs P1 S1 r0 r1 => by
    obtain ⟨a, a1, rfl⟩ := r0
    have ma := S1.mem p a m a1 hm
    have ha := S1.there a (List.mem_of_getElem? a1)
    refine ⟨B1, [a], .own 0 :: ds.map Vl.dat, [m], d, [m'], ⟨m, ds, m', rfl, rfl, rfl, hR⟩, by rw [List.length_cons, List.length_map]; exact hn, rfl, ?_, fun B' H' v P S' rv => ?_⟩
    · rw [List.append_nil]
      refine ⟨S1.sub, by rw [List.length_map, List.length_map, List.length_cons, List.length_cons, List.length_map, r1.len], fun i q h => ?_, rfl, fun n' a' m'' h1 h2 => ?_, List.Pairwise.cons (fun _ z => by cases z) .nil, fun a' h => ?_⟩
      · cases i with
        | zero =>
          cases h
          exact ⟨.ref a, rfl, a, rfl, rfl⟩
        | succ i =>
          obtain ⟨v, h1, h2⟩ := (pack_slots S1.sub r1).slot i q h
          exact ⟨v, h1, by
            cases q with
            | dat d => exact h2
            | own n' =>
              obtain ⟨x, h3, _⟩ := h2
              cases h3
            | tl ds => exact h2
            | lk ds => exact h2⟩
      · cases n' with
        | zero =>
          cases h1
          cases h2
          exact ma
        | succ n' => cases h1
      · rw [List.mem_singleton] at h
        exact h ▸ ha
    · obtain ⟨P2, S2⟩ := S1.after1 a1 P S'.sub (S'.mem 0 a m' rfl rfl)
      exact k _ _ _ _ (P1.trans P2) S2 rv
/-- C(..): __init__ at a new instance -/
theorem dt_make {C : Addr} {n : Nat} {R : Mc → List D → D → Mc → Prop} {E : XK} {t : TA} {ds : List D} {fs : List (Str × D)} (h : DA K t ss mem ds m1) (hR : R (.obj C []) ds .non (.obj C fs)) (hn : ds.length + 1 = n := by rfl) : DT K (tMake C (spO K n R) [] E t) ss mem (.dat (.obj C fs)) m1 := fun B H al σ Q S k =>
  h B H al σ _ S fun B1 H1 al1 vs P1 S1 r1 x dx nx ndx nex => by
    have nb : B1 x = none := S1.sub.free nx
    have sH : Same H1 (upd (upd H1 dx (.own x)) x (.ins C dx [])) := fun b u e => by rw [upd_ne (ne_of_none e nx), upd_ne (ne_of_none e ndx)]; exact e
    refine ⟨B1, [x], .own 0 :: ds.map Vl.dat, [.obj C []], .non, [.obj C fs], ⟨_, ds, _, rfl, rfl, rfl, hR⟩, by rw [List.length_cons, List.length_map]; exact hn, rfl, ?_, fun B' H' v P S' rv => ⟨by cases rv; rfl, ?_⟩⟩
    · rw [List.append_nil]
      refine ⟨S1.sub.trans sH, by rw [List.length_map, List.length_map, List.length_cons, List.length_cons, List.length_map, r1.len], fun i q h => ?_, rfl, fun n' a' m'' h1 h2 => ?_, List.Pairwise.cons (fun _ z => by cases z) .nil, fun a' h => ?_⟩
      · cases i with
        | zero =>
          cases h
          exact ⟨.ref x, rfl, x, rfl, rfl⟩
        | succ i =>
          obtain ⟨v, h1, h2⟩ := (pack_slots (S1.sub.trans sH) r1).slot i q h
          exact ⟨v, h1, by
            cases q with
            | dat d => exact h2
            | own n' =>
              obtain ⟨x, h3, _⟩ := h2
              cases h3
            | tl ds => exact h2
            | lk ds => exact h2⟩
      · cases n' with
        | zero =>
          cases h1
          cases h2
          exact ⟨nb, dx, [], upd_same, .nil⟩
        | succ n' => cases h1
      · rw [List.mem_singleton] at h
        rw [h, upd_same]
        exact fun z => nomatch z
    · obtain ⟨b0, dx', fv, h3, h4⟩ := S'.mem 0 x _ rfl rfl
      have sB : Same B' (upd B' x (.ins C dx' fv)) := fun b u e => by rw [upd_ne (ne_of_none e b0)]; exact e
      have hnx : ∀ b, H1 b ≠ none → b ≠ x := fun b h e => h (e ▸ nx)
      have hnd : ∀ b, H1 b ≠ none → b ≠ dx := fun b h e => h (e ▸ ndx)
      have P0 : Stp B1 H1 [] (upd B' x (.ins C dx' fv)) H' [] := by
        refine ⟨P.same.trans sB, fun b u e _ => P.frame b u (sH b u e) (fun z => ?_), fun b h => ?_, fun b h => P.stay b ?_, [], rfl, fun _ h => by cases h⟩
        · rw [List.mem_singleton] at z
          exact ne_of_none e nx z
        · by_cases e : b = x
          · exact .inr (.inl (e ▸ nx))
          · rw [upd_ne e] at h
            rcases P.fresh b h with z | z | z | ⟨ys, z⟩
            · exact .inl z
            · refine .inr (.inl ?_)
              rw [upd_ne e] at z
              by_cases e2 : b = dx
              · exact e2 ▸ ndx
              · rw [upd_ne e2] at z
                exact z
            · rw [List.mem_singleton] at z
              exact absurd z e
            · rw [upd_ne e] at z
              by_cases e2 : b = dx
              · rw [e2, upd_same] at z
                cases z
              · rw [upd_ne e2] at z
                exact .inr (.inr (.inr ⟨ys, z⟩))
        · rw [upd_ne (hnx b h), upd_ne (hnd b h)]
          exact h
      have sub : Same (upd B' x (.ins C dx' fv)) H' := fun b u e => by
        by_cases q : b = x
        · subst q
          rw [upd_same] at e
          exact h3.trans e
        · rw [upd_ne q] at e
          exact S'.sub b u e
      obtain ⟨P2, S2⟩ := S1.after P0 sub
      exact k _ _ _ _ (P1.trans P2) S2 (.obj upd_same (RepFs.mono sB fs h4))
end

/-! ### a def keeps its promise -/
section
variable {P : Program} {w : World} {K : PySem.W.Frag} {mg : Str → Option Value} {base : Heap}
theorem start_sit {B H : Hp} {al : List Addr} {N : List Str} {vs : List V} {args : List Vl} {mem : List Mc} {n : Nat} (S : Sit K B H al (vs.map some) (args.map some) mem) (hn : args.length = n) : Sit K B H al (L2.start N vs) (args.map some ++ List.replicate (N.length - n) none) mem := by
  have hl : vs.length = args.length := by
    have := S.len
    rwa [List.length_map, List.length_map] at this
  refine ⟨S.sub, ?_, fun i r e => ?_, S.mlen, S.mem, S.nd, S.there⟩
  · unfold L2.start
    rw [List.length_append, List.length_append, List.length_map, List.length_map, List.length_replicate, List.length_replicate, hl, hn]
  · by_cases h : i < (args.map some).length
    · rw [List.getElem?_append_left h] at e
      obtain ⟨v, h1, h2⟩ := S.slot i r e
      refine ⟨v, ?_, h2⟩
      unfold L2.start
      rw [List.getElem?_append_left (List.getElem?_eq_some_iff.mp h1).1]
      exact h1
    · rw [List.getElem?_append_right (by omega), List.getElem?_replicate] at e
      split at e
      · cases e
      · cases e
/-- the answer of a def -/
def Ends1 (K : PySem.W.Frag) (t : TS) (ss : Sl) (mem : List Mc) (d : D) (mem' : List Mc) : Prop :=
  ∃ more, DS K t ss mem (.rt (.dat d) (mem' ++ more)) ∨ (d = .non ∧ ∃ s, DS K t ss mem (.nx s (mem' ++ more)))
theorem Ends1.rt {t : TS} {ss : Sl} {mem : List Mc} {d : D} {mem' : List Mc} (h : DS K t ss mem (.rt (.dat d) mem')) : Ends1 K t ss mem d mem' := ⟨[], .inl (by rw [List.append_nil]; exact h)⟩
theorem Ends1.nx {t : TS} {ss s : Sl} {mem : List Mc} {mem' : List Mc} (h : DS K t ss mem (.nx s mem')) : Ends1 K t ss mem .non mem' := ⟨[], .inr ⟨rfl, s, by rw [List.append_nil]; exact h⟩⟩
theorem fn_ok {x qual : Str} {st : Stmt} {f : Addr} {fd : FuncData} {N ps : List Str} {k n : Nat} {R : Rel} (F : Fun K x qual st f fd) (S : FnScope N ps (defScope st)) (hp : ps.length = n)
    (hbody : ∀ (cdv : Value) (A : Around) (outer : List Env) (s : Shared) (H : Hp) (E : XK), Room k (A.deeper (envOfC qual (defScope st) s.heap.objs.size f cdv)) →
      ∃ t, PSs (cxOf CX0 P w K mg base N qual (defScope st) f cdv A outer s H E).nox (defBody st) t ∧
        ∀ args mem d mem', R args mem d mem' → args.length = n → Ends1 K t (args.map some ++ List.replicate (N.length - n) none) mem d mem') :
    FnOk P w K mg base CX0 (k + 1) f fd ps (spD K n R) := by
  refine F.ok S (fun vs H Q E h => ?_) (fun cdv A outer s H vs Q E hr h => ?_)
  · obtain ⟨B, al, args, mem, d, mem', _, hn, _, S0, _⟩ := h
    have := S0.len
    rw [List.length_map, List.length_map] at this
    omega
  · obtain ⟨B, al, args, mem, d, mem', hR, hn, hm, S0, k0⟩ := h
    obtain ⟨t, ht, hd⟩ := hbody cdv A outer s H E hr
    refine ⟨t, ht, ?_⟩
    have fin : ∀ B' H' al' σ' ss' more v, Stp B H al B' H' al' → Sit K B' H' al' σ' ss' (mem' ++ more) → Rep K B' v d → Q v H' := fun B' H' al' σ' ss' more v P' S' rv => by
      have e1 : al.length = mem'.length := by rw [S0.mlen, hm]
      obtain ⟨ex, q, hx⟩ := P'.ext
      have e2 : al'.take mem'.length = al := by
        rw [q, List.take_append_of_le_length (by omega), List.take_of_length_le (by omega)]
      have P2 := P'.drop mem'.length (by omega)
      rw [e2] at P2
      have S1 : Sit K B' H' al' (vs.map some) ((args.map some).map fun _ => none) (mem' ++ more) := by
        refine ⟨S'.sub, ?_, fun i r e => ?_, S'.mlen, S'.mem, S'.nd, S'.there⟩
        · rw [List.length_map (as := args.map some)]
          exact S0.len
        · rw [List.getElem?_map] at e
          cases z : (args.map some)[i]? with
          | none => rw [z] at e; cases e
          | some y => rw [z] at e; cases e
      have S2 := S1.drop fun i n' e => by
        rw [List.getElem?_map] at e
        cases z : (args.map some)[i]? with
        | none => rw [z] at e; cases e
        | some y => rw [z] at e; cases e
      rw [e2] at S2
      exact k0 B' H' v P2 (S0.back P2 S2) rv
    obtain ⟨more, h | ⟨hd0, s', h⟩⟩ := hd args mem d mem' hR hn
    · exact h B H al (L2.start N vs) _ (start_sit S0 hn) fun B' H' al' P' σ' ss' v S' rv => fin B' H' al' σ' ss' more v P' S' rv
    · exact h B H al (L2.start N vs) _ (start_sit S0 hn) fun B' H' al' P' σ' S' => fin B' H' al' σ' s' more .non P' S' (hd0 ▸ .non)
theorem fnP {x qual : Str} {st : Stmt} {f : Addr} {fd : FuncData} {N ps : List Str} {k n : Nat} {R : List D → D → Prop} (F : Fun K x qual st f fd) (S : FnScope N ps (defScope st)) (hp : ps.length = n)
    (hbody : ∀ (cdv : Value) (A : Around) (outer : List Env) (s : Shared) (H : Hp) (E : XK), Room k (A.deeper (envOfC qual (defScope st) s.heap.objs.size f cdv)) →
      ∃ t, PSs (cxOf CX0 P w K mg base N qual (defScope st) f cdv A outer s H E).nox (defBody st) t ∧
        ∀ ds d, R ds d → ds.length = n → Ends1 K t ((ds.map fun d => some (.dat d)) ++ List.replicate (N.length - n) none) [] d []) :
    FnOk P w K mg base CX0 (k + 1) f fd ps (spP K n R) := fn_ok F S hp fun cdv A outer s H E hr => by
  obtain ⟨t, ht, h⟩ := hbody cdv A outer s H E hr
  refine ⟨t, ht, fun args mem d mem' hR hn => ?_⟩
  obtain ⟨ds, rfl, rfl, rfl, hR⟩ := hR
  rw [List.map_map]
  exact h ds d hR (by rw [List.length_map] at hn; exact hn)
theorem fnO {x qual : Str} {st : Stmt} {f : Addr} {fd : FuncData} {N ps : List Str} {k n : Nat} {R : Mc → List D → D → Mc → Prop} (F : Fun K x qual st f fd) (S : FnScope N ps (defScope st)) (hp : ps.length = n)
    (hbody : ∀ (cdv : Value) (A : Around) (outer : List Env) (s : Shared) (H : Hp) (E : XK), Room k (A.deeper (envOfC qual (defScope st) s.heap.objs.size f cdv)) →
      ∃ t, PSs (cxOf CX0 P w K mg base N qual (defScope st) f cdv A outer s H E).nox (defBody st) t ∧
        ∀ m ds d m', R m ds d m' → ds.length + 1 = n → Ends1 K t (some (.own 0) :: (ds.map fun d => some (.dat d)) ++ List.replicate (N.length - n) none) [m] d [m']) :
    FnOk P w K mg base CX0 (k + 1) f fd ps (spO K n R) := fn_ok F S hp fun cdv A outer s H E hr => by
  obtain ⟨t, ht, h⟩ := hbody cdv A outer s H E hr
  refine ⟨t, ht, fun args mem d mem' hR hn => ?_⟩
  obtain ⟨m, ds, m', rfl, rfl, rfl, hR⟩ := hR
  rw [List.map_cons, List.map_map]
  exact h m ds d m' hR (by rw [List.length_cons, List.length_map] at hn; exact hn)
end
end DL
end
section
set_option Elab.async false
set_option linter.all false
set_option maxRecDepth 100000
namespace DL
open PySem PySem.Spec PyProof.Rows L2
section
variable {K : PySem.W.Frag} {ss ss1 ss2 : Sl} {mem m1 m2 m3 m4 : List Mc} {ta tb tc te : TE} {i j : Int} {d e : D} {r r' : Vl} {t u : TS} {out : Out}
/-! ### built-ins -/
theorem one_data {B : Hp} {vs : List V} {d : D} (h : RepAll K B vs [d]) : ∃ v, vs = [v] ∧ Rep K B v d := by
  cases h with
  | cons h1 h2 =>
    cases h2
    exact ⟨_, rfl, h1⟩
theorem two_data {B : Hp} {vs : List V} {d e : D} (h : RepAll K B vs [d, e]) : ∃ v w, vs = [v, w] ∧ Rep K B v d ∧ Rep K B w e := by
  cases h with
  | cons h1 h2 =>
    cases h2 with
    | cons h2 h3 =>
      cases h3
      exact ⟨_, _, rfl, h1, h2⟩
def rLen (K : PySem.W.Frag) : List V → Hp → VK → Prop := fun xs H Q => ∃ p ys, xs = [.ref p] ∧ (SqL K H p ys ∨ SqT K H p ys) ∧ Q (.int ys.length) H
theorem dt_lenL {ds : List D} (h : DT K te ss mem (.dat (.lst ds)) m1) : DT K (tCB (fun xs H Q => ∃ p ys, xs = [.ref p] ∧ (SqL K H p ys ∨ SqT K H p ys) ∧ Q (.int ys.length) H) (tCons te tNil)) ss mem (.dat (.int ds.length)) m1 := fun B H al σ Q S k =>
  h B H al σ _ S fun B1 H1 al1 v P1 S1 r1 => by
    cases r1 with
    | lst s r => exact ⟨_, _, rfl, .inl (S1.seqL s), by rw [r.len]; exact k _ _ _ _ P1 S1 (.int _)⟩
theorem dt_lenT {ds : List D} (h : DT K te ss mem (.dat (.tup ds)) m1) : DT K (tCB (fun xs H Q => ∃ p ys, xs = [.ref p] ∧ (SqL K H p ys ∨ SqT K H p ys) ∧ Q (.int ys.length) H) (tCons te tNil)) ss mem (.dat (.int ds.length)) m1 := fun B H al σ Q S k =>
  h B H al σ _ S fun B1 H1 al1 v P1 S1 r1 => by
    cases r1 with
    | tup s r => exact ⟨_, _, rfl, .inr (S1.seqT (SqT.of s)), by rw [r.len]; exact k _ _ _ _ P1 S1 (.int _)⟩
theorem dt_lenO {n : Nat} {ds : List D} (h : DT K te ss mem (.own n) m1) (hm : m1[n]? = some (.lst ds)) : DT K (tCB (fun xs H Q => ∃ p ys, xs = [.ref p] ∧ (SqL K H p ys ∨ SqT K H p ys) ∧ Q (.int ys.length) H) (tCons te tNil)) ss mem (.dat (.int ds.length)) m1 := fun B H al σ Q S k =>
  h B H al σ _ S fun B1 H1 al1 v P1 S1 r1 => by
    obtain ⟨a, a1, rfl⟩ := r1
    obtain ⟨_, xs, a2, a3⟩ := S1.mem n a _ a1 hm
    exact ⟨_, _, rfl, .inl (SqL.of a2), by rw [a3.len]; exact k _ _ _ _ P1 S1 (.int _)⟩
theorem dt_int1 (h : DT K te ss mem (.dat (.int i)) m1) : DT K (tCB (fun xs H Q => (∃ i, xs = [.int i] ∧ Q (.int i) H) ∨ ∃ k, xs = [.bl k] ∧ Q (.int (if k then 1 else 0)) H) (tCons te tNil)) ss mem (.dat (.int i)) m1 := fun B H al σ Q S k =>
  h B H al σ _ S fun B1 H1 al1 v P1 S1 r1 => by
    cases r1
    exact .inl ⟨i, rfl, k _ _ _ _ P1 S1 (.int _)⟩
theorem dt_max2 {t : TA} (h : DA K t ss mem [.int i, .int j] m1) : DT K (tCB (fun xs H Q => ∃ i j, xs = [.int i, .int j] ∧ Q (.int (if j > i then j else i)) H) t) ss mem (.dat (.int (if j > i then j else i))) m1 := fun B H al σ Q S k =>
  h B H al σ _ S fun B1 H1 al1 vs P1 S1 r1 => by
    obtain ⟨v, w, rfl, h1, h2⟩ := two_data r1
    cases h1
    cases h2
    exact ⟨i, j, rfl, k _ _ _ _ P1 S1 (.int _)⟩
theorem dt_min2 {t : TA} (h : DA K t ss mem [.int i, .int j] m1) : DT K (tCB (fun xs H Q => ∃ i j, xs = [.int i, .int j] ∧ Q (.int (if j < i then j else i)) H) t) ss mem (.dat (.int (if j < i then j else i))) m1 := fun B H al σ Q S k =>
  h B H al σ _ S fun B1 H1 al1 vs P1 S1 r1 => by
    obtain ⟨v, w, rfl, h1, h2⟩ := two_data r1
    cases h1
    cases h2
    exact ⟨i, j, rfl, k _ _ _ _ P1 S1 (.int _)⟩
theorem dt_all {bs : List Bool} (h : DT K te ss mem (.dat (.lst (bs.map .bl))) m1) : DT K (tCB (rAll K) (tCons te tNil)) ss mem (.dat (.bl (bs.all id))) m1 := fun B H al σ Q S k =>
  h B H al σ _ S fun B1 H1 al1 v P1 S1 r1 => by
    cases r1 with
    | lst s r =>
      cases r.bls
      exact ⟨_, bs, rfl, S1.seqL s, k _ _ _ _ P1 S1 (.bl _)⟩
theorem dt_any {bs : List Bool} (h : DT K te ss mem (.dat (.lst (bs.map .bl))) m1) : DT K (tCB (rAny K) (tCons te tNil)) ss mem (.dat (.bl (bs.any id))) m1 := fun B H al σ Q S k =>
  h B H al σ _ S fun B1 H1 al1 v P1 S1 r1 => by
    cases r1 with
    | lst s r =>
      cases r.bls
      exact ⟨_, bs, rfl, S1.seqL s, k _ _ _ _ P1 S1 (.bl _)⟩
theorem dt_tupleL {ds : List D} (h : DT K te ss mem (.dat (.lst ds)) m1) : DT K (tThen te (kTup K)) ss mem (.dat (.tup ds)) m1 := fun B H al σ Q S k =>
  h B H al σ _ S fun B1 H1 al1 v P1 S1 r1 => by
    cases r1 with
    | @lst a xs _ s r =>
      refine .inl ⟨a, xs, rfl, S1.seqL s, fun q nq => ?_⟩
      obtain ⟨P, S'⟩ := S1.lay (o := .tup xs) nq
      exact k _ _ _ _ (P1.trans P) S' (.tup upd_same (RepAll.mono P.same ds r))
theorem dt_tupleO {n : Nat} {ds : List D} (h : DT K te ss mem (.own n) m1) (hm : m1[n]? = some (.lst ds)) : DT K (tThen te (kTup K)) ss mem (.dat (.tup ds)) m1 := fun B H al σ Q S k =>
  h B H al σ _ S fun B1 H1 al1 v P1 S1 r1 => by
    obtain ⟨a, a1, rfl⟩ := r1
    obtain ⟨_, xs, a2, a3⟩ := S1.mem n a _ a1 hm
    refine .inl ⟨a, xs, rfl, SqL.of a2, fun q nq => ?_⟩
    obtain ⟨P, S'⟩ := S1.lay (o := .tup xs) nq
    exact k _ _ _ _ (P1.trans P) S' (.tup upd_same (RepAll.mono P.same ds a3))
/-! isinstance -/
def D.tyn : D → Option String
  | .non => some "NoneType"
  | .bl _ => some "bool"
  | .int _ => some "int"
  | .str _ => some "str"
  | .lst _ => some "list"
  | .tup _ => some "tuple"
  | .obj _ _ => none
  | .ctp _ => none
  | .dic _ => none
  | .rls _ => none
theorem rep_ty {B H : Hp} {v : V} {T : String} (e : Same B H) : ∀ {d : D}, Rep K B v d → d.tyn = some T → TyX K H v (.type T)
  | .non, h, z => by cases h; cases z; exact .base .non
  | .bl b, h, z => by cases h; cases z; exact .base (.bl b)
  | .int b, h, z => by cases h; cases z; exact .base (.int b)
  | .str b, h, z => by cases h; cases z; exact .base (.str b)
  | .lst _, h, z => by
    cases h with
    | lst s r =>
      cases z
      rcases e.seq s with (q | ⟨o, q⟩) | ⟨o, its, n, q, c, _⟩
      · exact .base (.lst q)
      · exact .base (.frz q)
      · exact .kList q c
  | .tup _, h, z => by
    cases h with
    | tup s r =>
      cases z
      exact .base (.tup (e _ _ s))
theorem dt_isi {T c : String} {b : Bool} (h : DT K te ss mem (.dat d) m1) (hd : d.tyn = some T) (hb : kitB T c = some b) : DT K (tCB (rIsi K) (tCons te (tCons (tC (.ty c)) tNil))) ss mem (.dat (.bl b)) m1 := fun B H al σ Q S k =>
  h B H al σ _ S fun B1 H1 al1 v P1 S1 r1 => ⟨v, .ty c, .type T, .type c, b, rfl, .ty c, rep_ty S1.sub r1 hd, kit_ty hb, k _ _ _ _ P1 S1 (.bl b)⟩
abbrev ClsT := C8.InsC
theorem dt_isiC {C : Addr} {gs : List (Str × D)} (h : DT K te ss mem (.dat (.obj C gs)) m1) (T : ClsT K C) : DT K (tCB (rIsi K) (tCons te (tCons (tC (.ref C)) tNil))) ss mem (.dat (.bl true)) m1 := fun B H al σ Q S k =>
  h B H al σ _ S fun B1 H1 al1 v P1 S1 r1 => by
    cases r1 with
    | obj s r => exact ⟨_, .ref C, .ref C, .ref C, true, rfl, .own C, .base (.ins (S1.sub _ _ s) T.cl T.ha T.hn T.htk T.hm), T.me, k _ _ _ _ P1 S1 (.bl true)⟩
/-! == of data -/
mutual
def D.py : D → PyData
  | .non => .none
  | .bl b => .bool b
  | .int i => .int i
  | .str x => .str x
  | .lst ds => .list (D.pyAll ds)
  | .tup ds => .tuple (D.pyAll ds)
  | .obj _ _ => .none
  | .ctp _ => .none
  | .dic _ => .none
  | .rls _ => .none
def D.pyAll : List D → List PyData
  | [] => []
  | d :: ds => d.py :: D.pyAll ds
end
mutual
/-- data without objects and texts, at most n deep -/
def D.flat : Nat → D → Bool
  | _, .non => true
  | _, .bl _ => true
  | _, .int _ => true
  | 0, .lst _ => false
  | n + 1, .lst ds => D.flatAll n ds
  | 0, .tup _ => false
  | n + 1, .tup ds => D.flatAll n ds
  | _, _ => false
def D.flatAll : Nat → List D → Bool
  | _, [] => true
  | n, d :: ds => D.flat n d && D.flatAll n ds
end
mutual
theorem flat_lay : ∀ (n : Nat) (d : D), D.flat n d = true → d.py.canLay0 = true ∧ d.py.depth ≤ n
  | n, .non, _ => by cases n <;> simp [D.py, PyData.canLay0, PyData.depth]
  | n, .bl b, _ => by cases n <;> simp [D.py, PyData.canLay0, PyData.depth]
  | n, .int b, _ => by cases n <;> simp [D.py, PyData.canLay0, PyData.depth]
  | 0, .str _, h => by simp [D.flat] at h
  | n + 1, .str _, h => by simp [D.flat] at h
  | 0, .obj _ _, h => by simp [D.flat] at h
  | n + 1, .obj _ _, h => by simp [D.flat] at h
  | 0, .ctp _, h => by simp [D.flat] at h
  | n + 1, .ctp _, h => by simp [D.flat] at h
  | 0, .dic _, h => by simp [D.flat] at h
  | n + 1, .dic _, h => by simp [D.flat] at h
  | 0, .rls _, h => by simp [D.flat] at h
  | n + 1, .rls _, h => by simp [D.flat] at h
  | 0, .lst _, h => by simp [D.flat] at h
  | 0, .tup _, h => by simp [D.flat] at h
  | n + 1, .lst ds, h => by
    have q := flat_layAll n ds (by simpa [D.flat] using h)
    simp only [D.py, PyData.canLay0, PyData.depth]
    exact ⟨q.1, by have := q.2; omega⟩
  | n + 1, .tup ds, h => by
    have q := flat_layAll n ds (by simpa [D.flat] using h)
    simp only [D.py, PyData.canLay0, PyData.depth]
    exact ⟨q.1, by have := q.2; omega⟩
theorem flat_layAll : ∀ (n : Nat) (ds : List D), D.flatAll n ds = true → PyData.canLayAll0 (D.pyAll ds) = true ∧ PyData.depthAll (D.pyAll ds) ≤ n
  | n, [], _ => by simp [D.pyAll, PyData.canLayAll0, PyData.depthAll]
  | n, d :: ds, h => by
    rw [D.flatAll, Bool.and_eq_true] at h
    have q1 := flat_lay n d h.1
    have q2 := flat_layAll n ds h.2
    simp only [D.pyAll, PyData.canLayAll0, PyData.depthAll, Bool.and_eq_true]
    exact ⟨⟨q1.1, q2.1⟩, by have := q1.2; have := q2.2; omega⟩
end
theorem flat_shaped {n : Nat} {d : D} (h : D.flat n d = true) (hn : n ≤ 64) : SeqAt.shaped d.py = true := by
  obtain ⟨a, b⟩ := flat_lay n d h
  show (d.py.canLay0 && decide (d.py.depth ≤ 64)) = true
  rw [Bool.and_eq_true]
  exact ⟨a, decide_eq_true (by omega)⟩
mutual
theorem Rep.dp {B H : Hp} (e : Same B H) : ∀ (n : Nat) (d : D) {v : V}, Rep K B v d → D.flat n d = true → Dp K H v d.py
  | n, .non, _, h, _ => by cases h; rw [D.py]; exact .non
  | n, .bl b, _, h, _ => by cases h; rw [D.py]; exact .bl b
  | n, .int b, _, h, _ => by cases h; rw [D.py]; exact .int b
  | n, .str b, _, h, _ => by cases h; rw [D.py]; exact .str b
  | 0, .obj _ _, _, h, z => by simp [D.flat] at z
  | n + 1, .obj _ _, _, h, z => by simp [D.flat] at z
  | 0, .ctp _, _, h, z => by simp [D.flat] at z
  | n + 1, .ctp _, _, h, z => by simp [D.flat] at z
  | 0, .dic _, _, h, z => by simp [D.flat] at z
  | n + 1, .dic _, _, h, z => by simp [D.flat] at z
  | 0, .rls _, _, h, z => by simp [D.flat] at z
  | n + 1, .rls _, _, h, z => by simp [D.flat] at z
  | 0, .lst _, _, h, z => by simp [D.flat] at z
  | 0, .tup _, _, h, z => by simp [D.flat] at z
  | n + 1, .lst ds, _, h, z => by
    cases h with
    | lst s r =>
      rw [D.py]
      exact .lst (e.seq s) (RepAll.dp e n ds r (by simpa [D.flat] using z))
  | n + 1, .tup ds, _, h, z => by
    cases h with
    | tup s r =>
      rw [D.py]
      exact .tup (sameT e (SqT.of s)) (RepAll.dp e n ds r (by simpa [D.flat] using z))
theorem RepAll.dp {B H : Hp} (e : Same B H) : ∀ (n : Nat) (ds : List D) {vs : List V}, RepAll K B vs ds → D.flatAll n ds = true → DpAll K H vs (D.pyAll ds)
  | n, [], _, h, _ => by cases h; rw [D.pyAll]; exact .nil
  | n, d :: ds, _, h, z => by
    rw [D.flatAll, Bool.and_eq_true] at z
    cases h with
    | cons h1 h2 =>
      rw [D.pyAll]
      exact .cons (Rep.dp e n d h1 z.1) (RepAll.dp e n ds h2 z.2)
end
theorem eqv_self {n : Nat} {d : D} (h : D.flat n d = true) : PyData.eqv d.py d.py = true := SeqAt.eqv_refl _ (flat_lay n d h).1
theorem dt_eqD {n : Nat} (ha : DT K ta ss mem (.dat d) m1) (hb : DT K tb ss m1 (.dat e) m2) (hd : D.flat n d = true) (he : D.flat n e = true) (hn : n ≤ 64 := by decide) : DT K (tOp (rEqD K) ta tb) ss mem (.dat (.bl (PyData.eqv d.py e.py))) m2 :=
  dt_op ha hb fun B H al σ v w Q S hv hw k => ⟨_, _, Rep.dp S.sub n d hv hd, Rep.dp S.sub n e hw he, flat_shaped hd hn, flat_shaped he hn, k _ _ _ _ (Stp.refl _ _ _) S (.bl _)⟩
theorem dt_neD {n : Nat} (ha : DT K ta ss mem (.dat d) m1) (hb : DT K tb ss m1 (.dat e) m2) (hd : D.flat n d = true) (he : D.flat n e = true) (hn : n ≤ 64 := by decide) : DT K (tOp (rNeD K) ta tb) ss mem (.dat (.bl (!PyData.eqv d.py e.py))) m2 :=
  dt_op ha hb fun B H al σ v w Q S hv hw k => ⟨_, _, Rep.dp S.sub n d hv hd, Rep.dp S.sub n e hw he, flat_shaped hd hn, flat_shaped he hn, k _ _ _ _ (Stp.refl _ _ _) S (.bl _)⟩
theorem dt_neD_same {n : Nat} (ha : DT K ta ss mem (.dat d) m1) (hb : DT K tb ss m1 (.dat d) m2) (hd : D.flat n d = true) (hn : n ≤ 64 := by decide) : DT K (tOp (rNeD K) ta tb) ss mem (.dat (.bl false)) m2 := by
  have h := dt_neD ha hb hd hd hn
  rw [eqv_self hd] at h
  exact h
theorem dt_inD {n : Nat} {ds : List D} (ha : DT K ta ss mem (.dat d) m1) (hb : DT K tb ss m1 (.dat (.lst ds)) m2) (hd : D.flat n d = true) (he : D.flat n (.lst ds) = true) (hn : n ≤ 64 := by decide) :
    DT K (tOp (rInD K) ta tb) ss mem (.dat (.bl ((D.pyAll ds).any fun z => PyData.eqv z d.py))) m2 :=
  dt_op ha hb fun B H al σ v w Q S hv hw k => by
    have h2 := Rep.dp S.sub n (.lst ds) hw he
    have h3 := flat_shaped he hn
    rw [D.py] at h2 h3
    exact ⟨_, _, Rep.dp S.sub n d hv hd, h2, flat_shaped hd hn, h3, k _ _ _ _ (Stp.refl _ _ _) S (.bl _)⟩
theorem pyAll_mem {d : D} : ∀ {ds : List D}, d ∈ ds → d.py ∈ D.pyAll ds
  | x :: ds, h => by
    rw [D.pyAll]
    rcases List.mem_cons.mp h with z | z
    · rw [z]
      exact List.mem_cons_self
    · exact List.mem_cons_of_mem _ (pyAll_mem z)
theorem inD_mem {n : Nat} {ds : List D} (hm : d ∈ ds) (hd : D.flat n d = true) : ((D.pyAll ds).any fun z => PyData.eqv z d.py) = true :=
  List.any_eq_true.mpr ⟨_, pyAll_mem hm, eqv_self hd⟩
/-- x in data: a member -/
theorem dt_inD_mem {n : Nat} {ds : List D} (ha : DT K ta ss mem (.dat d) m1) (hb : DT K tb ss m1 (.dat (.lst ds)) m2) (hd : D.flat n d = true) (he : D.flat n (.lst ds) = true) (hm : d ∈ ds) (hn : n ≤ 64 := by decide) :
    DT K (tOp (rInD K) ta tb) ss mem (.dat (.bl true)) m2 := by
  have h := dt_inD ha hb hd he hn
  rw [inD_mem hm hd] at h
  exact h
/-! sorted(set(rows)), rows tuples of ints -/
def rowD (ns : List Int) : D := .tup (ns.map .int)
theorem RepAll.rows {B : Hp} : ∀ {nss : List (List Int)} {vs : List V}, RepAll K B vs (nss.map rowD) → ∃ ks : List (Addr × List Int), vs = ks.map (fun p => V.ref p.1) ∧ ks.map (·.2) = nss ∧ ∀ p ∈ ks, B p.1 = some (.tup (p.2.map V.int))
  | [], _, h => by cases h; exact ⟨[], rfl, rfl, fun _ h => by cases h⟩
  | ns :: nss, _, h => by
    cases h with
    | cons h1 h2 =>
      cases h1 with
      | @tup a xs _ s r =>
        obtain ⟨ks, e1, e2, e3⟩ := RepAll.rows h2
        cases r.ints
        refine ⟨(a, ns) :: ks, by rw [e1]; rfl, by rw [← e2]; rfl, fun p hp => ?_⟩
        rcases List.mem_cons.mp hp with z | z
        · rw [z]
          exact s
        · exact e3 p z
theorem RepAll.ofRows {B : Hp} : ∀ {ks : List (Addr × List Int)}, (∀ p ∈ ks, B p.1 = some (.tup (p.2.map V.int))) → RepAll K B (ks.map fun p => V.ref p.1) ((ks.map (·.2)).map rowD)
  | [], _ => .nil
  | p :: ks, h => .cons (.tup (h p List.mem_cons_self) (RepAll.ofInts p.2)) (RepAll.ofRows fun q hq => h q (List.mem_cons_of_mem _ hq))
/-- what sorted(set(..)) of such rows is -/
structure SortSet (B : Int) (nss out : List (List Int)) : Prop where
  mem : ∀ x, x ∈ out ↔ x ∈ nss
  nd : out.Nodup
  ord : out.Pairwise fun a b => TS.code B a ≤ TS.code B b
theorem dt_sortSet {P : Program} {w : World} {nss out : List (List Int)} {n : Nat} {Bd : Int} (h : DT K te ss mem (.dat (.lst (nss.map rowD))) m1) (hl : nss.length < 64) (hn : 1 ≤ n) (hb : ∀ x ∈ nss, x.length = n ∧ TS.Bd Bd x)
    (uniq : ∀ out', SortSet Bd nss out' → out' = out) : DT K (tCB (rSortedT K P w) (tCons (tCB (rSetOfT K P w) (tCons te tNil)) tNil)) ss mem (.dat (.lst (out.map rowD))) m1 := fun B H al σ Q S k =>
  h B H al σ _ S fun B1 H1 al1 v P1 S1 r1 => by
    cases r1 with
    | @lst l xs _ s r =>
      obtain ⟨ks, e1, e2, e3⟩ := RepAll.rows r
      subst e1
      have kl : ks.length = nss.length := by rw [← e2, List.length_map]
      refine ⟨l, ks, rfl, S1.seqL s, fun p hp => S1.seqT (SqT.of (e3 p hp)), by omega, fun a L na hL1 hL2 => ?_⟩
      obtain ⟨P2, S2⟩ := S1.lay (o := SetTO P w a L) na
      have e3' : ∀ p ∈ L, (upd B1 a (SetTO P w a L)) p.1 = some (.tup (p.2.map V.int)) := fun p hp => P2.same _ _ (e3 p (hL1 p hp))
      have hin : ∀ p ∈ ks, p.2 ∈ nss := fun p hp => by rw [← e2]; exact List.mem_map_of_mem hp
      refine ⟨a, L, n, Bd, rfl, upd_same, fun p hp => S2.seqT (SqT.of (e3' p hp)), hn, fun p hp => hb _ (hin p (hL1 p hp)), fun L' p hp hnd hfew hord np => ?_⟩
      obtain ⟨P3, S3⟩ := S2.lay (o := .lst (L'.map fun q => V.ref q.1)) np
      have hout : L'.map (·.2) = out := uniq _ ⟨fun x => ⟨fun hx => ?_, fun hx => ?_⟩, hnd, by rw [List.pairwise_map]; exact hord⟩
      · refine k _ _ _ _ ((P1.trans P2).trans P3) S3 (.lst (SqL.of upd_same) ?_)
        rw [← hout]
        exact RepAll.mono P3.same _ (RepAll.ofRows fun q hq => e3' q (hp.mem_iff.mp hq))
      · obtain ⟨q, hq, rfl⟩ := List.mem_map.mp hx
        exact hin q (hL1 q (hp.mem_iff.mp hq))
      · rw [← e2] at hx
        obtain ⟨q, hq, rfl⟩ := List.mem_map.mp hx
        obtain ⟨q', hq', e⟩ := List.mem_map.mp (hL2 q hq)
        exact List.mem_map.mpr ⟨q', hp.mem_iff.mpr hq', e⟩
end
end DL
end
section
set_option Elab.async false
set_option linter.all false
set_option maxRecDepth 100000
/-! enumerate(tuple); zip of two tuples, walked, said of data -/
namespace DL
open PySem PySem.Spec PyProof.Rows L2
/-! enumerate of a tuple, told once, without a start -/
set_option maxHeartbeats 1000000 in
theorem enumNew1 {v : Value} {o : Obj} {At : Heap → Prop} (beg : Begins v o At) : Meets (Builtin.«enumerate.__new__» ⟨[.type "enumerate", v], []⟩) fun _ R s =>
    At s.heap ∧ R (.ok (.ret (.ref (s.heap.objs.size + 1)))) { s with heap := (s.heap.push o).push ⟨.type "enumerate", none, .fields #[.none, .bool false, .ref s.heap.objs.size, rawInt 0, .none, .none], #[]⟩ } :=
  .of_wp fun P w A R ⟨hp, gs, dr, tk, os⟩ ⟨now, fin⟩ => by
    have self := sub_enumerate
    have begins := fun {A' : Around} {E Q : Value → Shared → Prop} => beg.iter P w A' E ⟨hp, gs, dr, tk, os⟩ Q now
    have two : (hp.push o).objs.size = hp.objs.size + 1 := Heap.size_push ..
    have done : ∀ z : Value, z = .ref (hp.push o).objs.size → R (.ok (.ret z)) _ := fun z e => by rw [e, two]; exact fin
    wp_walk using begins
    refine wpAny_stack_any fun _ => wpAny_pure ?_
    split
    case h_1 k _ _ _ _ _ => cases (k == Value.type "enumerate") <;> (wp_walk using begins) <;> exact ⟨_, rfl, done _ rfl⟩
    case h_2 => wp_walk using begins; exact ⟨_, rfl, done _ rfl⟩
/-- the pairs of place and item of the tuple at a (n items), each in a new tuple -/
def PlT (K : PySem.W.Frag) (a : Addr) (n : Nat) : It where
  go i H := i < n ∧ ∃ xs, SqT K H a xs ∧ xs.length = n
  yld i H v H' := ∃ T x, v = .ref T ∧ H T = none ∧ H' = upd H T (.tup [.int (i : Nat), x]) ∧ ∀ xs, SqT K H a xs → xs[i]? = some x
  stop i H := n ≤ i ∧ ∃ xs, SqT K H a xs ∧ xs.length = n
theorem turnPlT {P : Program} {w : World} {K : PySem.W.Frag} {elts : List Expr} {kk : Nat} {tpos : Pos} {a e it : Addr} {n : Nat} (ai : a ≠ it) (ei : e ≠ it) (ea : e ≠ a) :
    Turn P w K (.Tuple elts kk tpos) (PlT K a n) [e, it] e fun i h => i ≤ n ∧ (∃ old, IsEnum h e it (i : Nat) old) ∧ h.IsTupleIter it a i where
  mem := List.mem_cons_self
  obj i h st b hb := by
    obtain ⟨-, ⟨_, p⟩, oi, q, -, z⟩ := st
    rcases List.mem_cons.mp hb with y | y
    · subst y
      exact ⟨_, p, fun _ q => nomatch q⟩
    · cases List.mem_singleton.mp y
      exact ⟨oi, q, fun _ c => by rw [z] at c; cases c⟩
  keep i h h' st k := ⟨st.1, ⟨_, k e List.mem_cons_self _ st.2.1.choose_spec⟩, st.2.2.at (k it (by simp))⟩
  self A i s Q E st k := wpAny_pyIter_enum st.2.1.choose_spec k
  item := by
    rintro X rfl rfl rfl calm i pins s σ H E I free ⟨-, p, q⟩ ⟨lt, xs, sq, hn⟩
    obtain ⟨us, rel, tup, -⟩ := I.tuple sq
    have W := WalksT.enumerateD (Draws.tuple (prog := X.prog) (w := X.w) (A := X.A.in1) (show X.A.in1.handled = none from I.ok.hd calm) it a ai us.toArray) e ei (by simp [ei, ea]) (by simp)
    have hi : i < xs.length := hn ▸ lt
    obtain ⟨u', e1, rx⟩ := rel.get (List.getElem?_eq_getElem hi)
    refine W.item i s _ _ (by rw [List.size_toArray, ← rel.length]; exact hi) ⟨p, q, tup⟩ fun T vals h1 tk ⟨t, u, hu, hv⟩ new hT mid k1 => ⟨_, rfl, W.go elts kk tpos i T _ _ _ mid fun h2 ⟨p2, q2, _⟩ k2 => ?_⟩
    have e3 : us[i]? = some u := by simpa using hu
    cases e1.symm.trans e3
    have nT : T ∉ [e, it] := W.apart i T _ mid
    obtain ⟨oT, gT, cT, nn, dT⟩ := hT
    have pair : ObjOk X.prog X.w (upd H T (.tup [.int (i : Nat), xs[i]])) h2 T (.tup [.int (i : Nat), xs[i]]) :=
      ⟨by rw [sizeLine_eq]; show 2 ≤ 16777216; omega, [.int i t, u'], .cons ⟨t, rfl⟩ (.cons rx .nil), oT, k2 T oT nT gT, cT, nn, by rw [dT, hv]⟩
    have only : ∀ ys, SqT X.K H a ys → ys[i]? = some xs[i] := fun ys hy => by
      cases I.tuple_inj sq hy
      exact List.getElem?_eq_getElem hi
    refine ⟨.ref T, _, I.turnedNew (t' := tk) (fun b ob nb g => k2 b ob nb (k1 b ob nb g)) free new pair, rfl, ⟨T, xs[i], rfl, I.hok.fresh new, rfl, only⟩, ⟨lt, p2, q2⟩, fun b hb => ?_⟩
    have bT : b ≠ T := fun z => nT (by rw [← z]; exact hb)
    exact (upd_ne bT).trans (free b hb).1
  done := by
    rintro X rfl rfl rfl calm i pins s σ H E I free ⟨le, p, q⟩ ⟨ge, xs, sq, hn⟩
    obtain ⟨us, rel, tup, -⟩ := I.tuple sq
    have W := WalksT.enumerateD (Draws.tuple (prog := X.prog) (w := X.w) (A := X.A.in1) (show X.A.in1.handled = none from I.ok.hd calm) it a ai us.toArray) e ei (by simp [ei, ea]) (by simp)
    have len : i = us.toArray.size := by rw [List.size_toArray, ← rel.length]; omega
    subst len
    exact W.done s _ _ ⟨p, q, tup⟩ fun h1 tk k1 => ⟨rfl, I.turnedL k1 free⟩
def iEnumT (K : PySem.W.Frag) (ta : TA) : TI := fun σ H R => ta σ H fun vs H1 => ∃ a xs, vs = [.ref a] ∧ SqT K H1 a xs ∧ R (PlT K a xs.length) H1
theorem pi_enumT {X : Cx} {e : Expr} {ta : TA} {p pos tpos : Pos} {elts : List Expr} {kk : Nat} (hg : Gl X "enumerate") (hm : X.mg "enumerate" = none) (ha : PA X [e] ta) (hs : starEach [e] X.env = [(false, eval e X.env)] := by rfl) :
    PI X (.Tuple elts kk tpos) (.Call (.Name "enumerate" p) [e] [] pos) (iEnumT X.K ta) := ⟨fun pins s σ H R I h => by
  have args := ha.run pos pins s σ H _ I h
  refine Call_ (ld_blt I hg hm boot_enumerate (PyProof.Rows.callWith_type1 (thn args fun us s1 came => ?_) hs rfl))
  obtain ⟨vs, H1, I1, rel, a, xs, rfl, sq, k⟩ := came
  obtain ⟨_, rfl, ra⟩ := rel.one
  cases ra
  obtain ⟨its, -, tup, -⟩ := I1.tuple sq
  have before : a < s1.heap.objs.size := let ⟨_, g, _⟩ := tup; Heap.lt_size g
  refine callType_new F.called_enumerate (by decide) (F.typeCall_enumerate_1 _) (F.newCall_enumerate_1 _)
    (fun obj => F.args_object_init_2 obj _) F.entry_enumerate_new (enumNew1 (begins_tuple a its.toArray)) ⟨tup, ?_⟩
  generalize hob : ({ cls := .type "tuple_iterator", data := .fields #[.ref a, .int 0 0] } : Obj) = ob
  have two : (s1.heap.push ob).objs.size = s1.heap.objs.size + 1 := Heap.size_push ..
  have en : ∀ q : Obj, q.isFreed = false → ((s1.heap.push ob).push q).get? (s1.heap.objs.size + 1) = some q := fun q f => two ▸ Heap.get?_push_size _ f
  have old : ∀ q : Obj, ∀ b o, s1.heap.get? b = some o → ((s1.heap.push ob).push q).get? b = some o := fun q b o g => Heap.get?_push_of_some _ (Heap.get?_push_of_some _ g)
  have me := en ⟨.type "enumerate", none, .fields #[.none, .bool false, .ref s1.heap.objs.size, rawInt 0, .none, .none], #[]⟩ rfl
  have at0 : ((s1.heap.push ob).push ⟨.type "enumerate", none, .fields #[.none, .bool false, .ref s1.heap.objs.size, rawInt 0, .none, .none], #[]⟩).get? s1.heap.objs.size = some ob := Heap.get?_push_of_some _ (Heap.get?_push_size _ (hob ▸ rfl))
  refine ⟨⟨_, me, rfl⟩, wpAny_pyIter_enum (it := s1.heap.objs.size) me ?_⟩
  refine ⟨_, [s1.heap.objs.size + 1, s1.heap.objs.size], _, _, H1, rfl, I1.kept (t' := s1.toks) (old _), turnPlT (Nat.ne_of_lt before) (Nat.succ_ne_self _) (Nat.ne_of_gt (Nat.lt_succ_of_lt before)),
    ⟨Nat.zero_le _, ⟨_, me⟩, ⟨ob, at0, hob ▸ rfl, hob ▸ rfl⟩⟩, fun b hb => ?_, k⟩
  have ge : s1.heap.objs.size ≤ b := by
    rcases List.mem_cons.mp hb with y | y
    · exact y ▸ Nat.le_succ _
    · exact Nat.le_of_eq (List.mem_singleton.mp y).symm
  exact I1.fpOk ge (I1.hok.fresh ge)⟩
section
variable {K : PySem.W.Frag} {ss ss1 ss2 : Sl} {mem m1 m2 m3 m4 : List Mc} {ta tb tc te : TE} {i j : Int} {d e : D} {r r' : Vl} {t u : TS} {out : Out}
theorem Sit.layPair {B H : Hp} {al : List Addr} {σ : L2.St} (S : Sit K B H al σ ss mem) {T : Addr} {x y : V} (hT : H T = none) (r1 : Rep K B x d) (r2 : Rep K B y e) :
    ∃ B', Stp B H al B' (upd H T (.tup [x, y])) al ∧ Sit K B' (upd H T (.tup [x, y])) al σ ss mem ∧ Rep K B' (.ref T) (.tup [d, e]) := by
  obtain ⟨P, S'⟩ := S.lay (o := .tup [x, y]) hT
  exact ⟨_, P, S', .tup upd_same (.cons (Rep.mono P.same _ r1) (.cons (Rep.mono P.same _ r2) .nil))⟩
theorem di_enumT {ds : List D} (h : DT K te ss mem (.dat (.tup ds)) m1) : DI K (iEnumT K (tCons te tNil)) ss mem ds.length (fun i => .tup [.int (i : Nat), nthD ds i]) m1 := fun B H al σ R S k =>
  h B H al σ _ S fun B1 H1 al1 v P1 S1 r1 => by
    cases r1 with
    | @tup a xs _ s0 r =>
      refine ⟨a, xs, rfl, S1.seqT (SqT.of s0), k _ _ _ _ P1 S1 fun B2 H2 al2 σ2 ss2 mem2 e2 S2 => ?_⟩
      have s1 : SqT K H2 a xs := S2.seqT (SqT.of (e2 _ _ s0))
      refine ⟨fun i hi => ⟨⟨by rw [r.len]; exact hi, xs, s1, rfl⟩, fun x H' y => ?_⟩, fun i hi => ⟨by rw [r.len]; exact hi, xs, s1, rfl⟩⟩
      obtain ⟨v, h1, h2⟩ := r.get (nthD_get hi)
      obtain ⟨T, x', rfl, nT, rfl, y⟩ := y
      cases h1.symm.trans (y xs s1)
      exact S2.layPair nT (.int _) (Rep.mono e2 _ h2)
theorem di_enumL {ds : List D} (h : DT K te ss mem (.dat (.lst ds)) m1) : DI K (iEnum K (tCons te tNil)) ss mem ds.length (fun i => .tup [.int (i : Nat), nthD ds i]) m1 := fun B H al σ R S k =>
  h B H al σ _ S fun B1 H1 al1 v P1 S1 r1 => by
    cases r1 with
    | @lst a xs _ s r =>
      refine ⟨a, xs, rfl, S1.seqL s, k _ _ _ _ P1 S1 fun B2 H2 al2 σ2 ss2 mem2 e2 S2 => ?_⟩
      have s1 : SqL K H2 a xs := S2.seqL (e2.seq s)
      refine ⟨fun i hi => ?_, fun i hi => ⟨xs, s1, by rw [r.len]; exact hi⟩⟩
      obtain ⟨v, h1, h2⟩ := r.get (nthD_get hi)
      exact ⟨⟨xs, v, s1, h1⟩, fun x H' y => by
        obtain ⟨T, x', rfl, nT, rfl, y⟩ := y
        have q := y xs s1
        rw [h1] at q
        cases q
        exact S2.layPair nT (.int _) (Rep.mono e2 _ h2)⟩
theorem di_zipT {ds es : List D} {t : TA} (h : DA K t ss mem [.tup ds, .tup es] m1) (hl : ds.length = es.length) : DI K (RZ.iZipA K t) ss mem ds.length (fun i => .tup [nthD ds i, nthD es i]) m1 := fun B H al σ R S k =>
  h B H al σ _ S fun B1 H1 al1 vs P1 S1 r1 => by
    obtain ⟨v, w, rfl, q1, q2⟩ := two_data r1
    cases q1 with
    | @tup a xs _ s0 r =>
      have s : SqT K B1 a xs := SqT.of s0
      cases q2 with
      | @tup b ys _ s0' r' =>
        have s' : SqT K B1 b ys := SqT.of s0'
        refine ⟨a, b, xs, ys, rfl, .inr ⟨S1.seqT s, S1.seqT s', k _ _ _ _ P1 S1 fun B2 H2 al2 σ2 ss2 mem2 e2 S2 => ?_⟩⟩
        have s1 : SqT K H2 a xs := S2.seqT (sameT e2 s)
        have s2 : SqT K H2 b ys := S2.seqT (sameT e2 s')
        refine ⟨fun i hi => ?_, fun i hi => ⟨xs, ys, s1, s2, .inl (by rw [r.len]; exact hi)⟩⟩
        obtain ⟨v, h1, h2⟩ := r.get (nthD_get hi)
        obtain ⟨v', h1', h2'⟩ := r'.get (nthD_get (show i < es.length by omega))
        exact ⟨⟨xs, ys, v, v', s1, s2, h1, h1'⟩, fun x H' y => by
          obtain ⟨T, x', y', rfl, nT, rfl, z, z'⟩ := y
          have q := z xs s1
          rw [h1] at q
          cases q
          have q' := z' ys s2
          rw [h1'] at q'
          cases q'
          exact S2.layPair nT (Rep.mono e2 _ h2) (Rep.mono e2 _ h2')⟩
theorem di_zipL {ds es : List D} {t : TA} (h : DA K t ss mem [.lst ds, .lst es] m1) (hl : ds.length = es.length) : DI K (iZip K t) ss mem ds.length (fun i => .tup [nthD ds i, nthD es i]) m1 := fun B H al σ R S k =>
  h B H al σ _ S fun B1 H1 al1 vs P1 S1 r1 => by
    obtain ⟨v, w, rfl, q1, q2⟩ := two_data r1
    cases q1 with
    | @lst a xs _ s r =>
      cases q2 with
      | @lst b ys _ s' r' =>
        refine ⟨a, b, xs, ys, rfl, S1.seqL s, S1.seqL s', k _ _ _ _ P1 S1 fun B2 H2 al2 σ2 ss2 mem2 e2 S2 => ?_⟩
        have s1 : SqL K H2 a xs := S2.seqL (e2.seq s)
        have s2 : SqL K H2 b ys := S2.seqL (e2.seq s')
        refine ⟨fun i hi => ?_, fun i hi => ⟨xs, ys, s1, s2, .inl (by rw [r.len]; exact hi)⟩⟩
        obtain ⟨v, h1, h2⟩ := r.get (nthD_get hi)
        obtain ⟨v', h1', h2'⟩ := r'.get (nthD_get (show i < es.length by omega))
        exact ⟨⟨xs, ys, v, v', s1, s2, h1, h1'⟩, fun x H' y => by
          obtain ⟨T, x', y', rfl, nT, rfl, z, z'⟩ := y
          have q := z xs s1
          rw [h1] at q
          cases q
          have q' := z' ys s2
          rw [h1'] at q'
          cases q'
          exact S2.layPair nT (Rep.mono e2 _ h2) (Rep.mono e2 _ h2')⟩
end
end DL
end
section
set_option Elab.async false
set_option linter.all false
set_option maxRecDepth 100000
/-! the rules whose reading names the written part, with that part written out (for blocks of comprehensions) -/
namespace DL
open PySem PySem.Spec PyProof.Rows L2
section
variable {X : Cx} (K : PySem.W.Frag)
theorem ixT (h : X.K = K := by rfl) : IxR X (rIxT K) := h ▸ ix_tup
theorem ixL (h : X.K = K := by rfl) : IxR X (rIxL K) := h ▸ ix_list
theorem slT (h : X.K = K := by rfl) : SlR X (rSlA K) := h ▸ sl_tupA
theorem slL (h : X.K = K := by rfl) : SlR X (rSlL K) := h ▸ sl_list
theorem opLtT (hu : X.A.units < cLine) (h : X.K = K := by rfl) : OpR X (compareOp .Lt) (rLtT K) := h ▸ op_ltT hu
theorem opEqD (hu : X.A.units + 64 < cLine) (h : X.K = K := by rfl) : OpR X (compareOp .Eq) (rEqD K) := h ▸ op_eqD hu
theorem opNeD (hu : X.A.units + 64 < cLine) (h : X.K = K := by rfl) : OpR X (compareOp .NotEq) (rNeD K) := h ▸ op_neD hu
theorem opInD (hu : X.A.units + 65 < cLine) (h : X.K = K := by rfl) : OpR X (compareOp .In) (rInD K) := h ▸ op_inD hu
theorem opNotInD (hu : X.A.units + 65 < cLine) (h : X.K = K := by rfl) : OpR X (compareOp .NotIn) (rNotInD K) := h ▸ op_notInD hu
theorem opCatA (h : X.K = K := by rfl) : OpR X (binaryOp .Add) (rCatA K) := h ▸ op_catA
theorem callIsi (h : X.K = K := by rfl) : CallR X (.builtin "isinstance") (rIsi K) := h ▸ call_isi
theorem callLen (h : X.K = K := by rfl) : CallR X (.builtin "len") (fun xs H Q => ∃ p ys, xs = [.ref p] ∧ (SqL K H p ys ∨ SqT K H p ys) ∧ Q (.int ys.length) H) := h ▸ call_len_seq
theorem crAll (hc : X.calm = true := by rfl) (h : X.K = K := by rfl) : CallR X (.builtin "all") (rAll K) := h ▸ cr_all hc
theorem crAny (hc : X.calm = true := by rfl) (h : X.K = K := by rfl) : CallR X (.builtin "any") (rAny K) := h ▸ cr_any hc
theorem peFld {e : Expr} {f : Str} {pos : Pos} {ta : TE} (ha : PE X e ta) (h : X.K = K := by rfl) (hb : attributeBase e f X.env (eval e X.env) = eval e X.env := by rfl) : PE X (.Attribute e f pos) (tFld K ta f) := h ▸ pe_fld ha hb
theorem pgTup (n : Nat) {es : List Expr} {k : Nat} {pos : Pos} {t : TGs} (ht : PGs X es t) (hc : X.calm = true := by rfl) (h : X.K = K := by rfl) (hn : (assignEach es X.env).length = n := by rfl) (hst : (assignEach es X.env).findIdx? (·.1) = none := by rfl) : PG X (.Tuple es k pos) (gTup K n t) := h ▸ pg_tup hc ht hn hst
theorem piList {tg l : Expr} {tl : TE} (hl : PE X l tl) (h : X.K = K := by rfl) : PI X tg l (iList K tl) := h ▸ pi_list hl
theorem piTup {tg l : Expr} {tl : TE} (hl : PE X l tl) (h : X.K = K := by rfl) : PI X tg l (iTup K tl) := h ▸ pi_tup hl
theorem piEnumT {e : Expr} {ta : TA} {p pos tpos : Pos} {elts : List Expr} {kk : Nat} (hg : Gl X "enumerate") (hm : X.mg "enumerate" = none) (ha : PA X [e] ta) (h : X.K = K := by rfl) (hs : starEach [e] X.env = [(false, eval e X.env)] := by rfl) :
    PI X (.Tuple elts kk tpos) (.Call (.Name "enumerate" p) [e] [] pos) (iEnumT K ta) := h ▸ pi_enumT hg hm ha hs
theorem piEnumL {e : Expr} {ta : TA} {p pos tpos : Pos} {elts : List Expr} {kk : Nat} (hg : Gl X "enumerate") (hm : X.mg "enumerate" = none) (ha : PA X [e] ta) (h : X.K = K := by rfl) (hs : starEach [e] X.env = [(false, eval e X.env)] := by rfl) :
    PI X (.Tuple elts kk tpos) (.Call (.Name "enumerate" p) [e] [] pos) (iEnum K ta) := h ▸ pi_enum hg hm ha hs
end
end DL
namespace DL
open PySem L2
theorem room_in {k : Nat} {A : Around} (r : Room k A) : A.units + 65 < cLine := by have := r.un; omega
end DL
end
section
set_option Elab.async false
set_option linter.all false
set_option maxRecDepth 100000
/-! loops whose turns leave names behind that nothing reads -/
namespace DL
open PySem PySem.Spec PyProof.Rows L2
section
variable {K : PySem.W.Frag} {ss ss1 ss2 : Sl} {mem m1 m2 m3 m4 : List Mc} {ta tb tc te : TE} {i j : Int} {d e : D} {r r' : Vl} {t u : TS} {out : Out}
theorem wipeS_len (s : Sl) : ∀ ks : List Nat, (wipeS s ks).length = s.length
  | [] => rfl
  | k :: ks => by
    show (List.set _ _ _).length = _
    rw [List.length_set, wipeS_len s ks]
theorem wipeS_some {s : Sl} {i : Nat} {r : Vl} : ∀ {ks : List Nat}, (wipeS s ks)[i]? = some (some r) → s[i]? = some (some r)
  | [], h => h
  | k :: ks, h => by
    have h : ((wipeS s ks).set k none)[i]? = some (some r) := h
    by_cases e : k = i
    · subst e
      by_cases hl : k < (wipeS s ks).length
      · rw [List.getElem?_set_self hl] at h
        cases h
      · rw [List.getElem?_eq_none (by rw [List.length_set]; omega)] at h
        cases h
    · rw [List.getElem?_set_ne e] at h
      exact wipeS_some h
theorem ds_wipe (ks : List Nat) (h : DS K t ss mem (.nx ss1 m1)) (e : wipeS ss1 ks = ss2) : DS K t ss mem (.nx ss2 m1) :=
  ds_forget h (by rw [← e, wipeS_len]) fun i r q => by
    rw [← e] at q
    exact wipeS_some q
/-! lists that are data, and tracked -/
theorem dt_tl {ds : List D} (h : DT K te ss mem (.tl ds) m1) : DT K te ss mem (.dat (.lst ds)) m1 := fun B H al σ Q S k =>
  h B H al σ _ S fun B1 H1 al1 v P1 S1 r1 => by
    obtain ⟨a, xs, rfl, h1, h2⟩ := r1
    exact k _ _ _ _ P1 S1 (.lst (SqL.of h1) h2)
theorem dt_lstT {t : TA} {ds : List D} (h : DA K t ss mem ds m1) (hl : ds.length ≤ 16777216 := by exact Nat.le_of_ble_eq_true rfl) : DT K (tLst t) ss mem (.tl ds) m1 := fun B H al σ Q S k =>
  h B H al σ _ S fun B1 H1 al1 vs P1 S1 r1 => by
    refine ⟨by rw [r1.len, sizeLine_eq]; exact hl, fun p np => ?_⟩
    obtain ⟨P, S'⟩ := S1.lay (o := .lst vs) np
    exact k _ _ _ _ (P1.trans P) S' ⟨p, vs, rfl, upd_same, RepAll.mono P.same ds r1⟩
theorem dt_catT {ds es : List D} (ha : DT K ta ss mem (.tl ds) m1) (hb : DT K tb ss m1 (.tl es) m2) (hl : ds.length + es.length ≤ 16777216) : DT K (tOp rCat ta tb) ss mem (.tl (ds ++ es)) m2 :=
  dt_op ha hb fun B H al σ v w Q S hv hw k => by
    obtain ⟨a, xs, rfl, a2, a3⟩ := hv
    obtain ⟨b, ys, rfl, b2, b3⟩ := hw
    refine ⟨a, b, xs, ys, rfl, rfl, S.sub _ _ a2, S.sub _ _ b2, by rw [a3.len, b3.len, sizeLine_eq]; exact hl, fun p np => ?_⟩
    obtain ⟨P, S'⟩ := S.lay (o := .lst (xs ++ ys)) np
    exact k _ _ _ _ P S' ⟨p, _, rfl, upd_same, RepAll.mono P.same _ (a3.append b3)⟩
/-- no own object beyond these is named -/
def ownsUnder (n : Nat) : Sl → Bool
  | [] => true
  | some (.own k) :: s => decide (k < n) && ownsUnder n s
  | _ :: s => ownsUnder n s
theorem ownsUnder_ok {n : Nat} : ∀ {s : Sl}, ownsUnder n s = true → ∀ (i k : Nat), s[i]? = some (some (Vl.own k)) → k < n
  | [], _, i, k, h => by simp at h
  | none :: s, h, 0, k, e => by cases e
  | none :: s, h, i + 1, k, e => ownsUnder_ok (s := s) h i k (by simpa using e)
  | some (.dat d) :: s, h, 0, k, e => by cases e
  | some (.dat d) :: s, h, i + 1, k, e => ownsUnder_ok (s := s) h i k (by simpa using e)
  | some (.tl d) :: s, h, 0, k, e => by cases e
  | some (.tl d) :: s, h, i + 1, k, e => ownsUnder_ok (s := s) h i k (by simpa using e)
  | some (.lk d) :: s, h, 0, k, e => by cases e
  | some (.lk d) :: s, h, i + 1, k, e => ownsUnder_ok (s := s) h i k (by simpa using e)
  | some (.own j) :: s, h, 0, k, e => by
    have h' : (decide (j < n) && ownsUnder n s) = true := h
    cases e
    exact of_decide_eq_true (Bool.and_eq_true_iff.mp h').1
  | some (.own j) :: s, h, i + 1, k, e => by
    have h' : (decide (j < n) && ownsUnder n s) = true := h
    exact ownsUnder_ok (s := s) (Bool.and_eq_true_iff.mp h').2 i k (by simpa using e)
/-- names and the last own objects are let go -/
theorem ds_shed (ks : List Nat) (more : List Mc) (h : DS K t ss mem (.nx ss1 (m1 ++ more))) (e : wipeS ss1 ks = ss2) (ho : ownsUnder m1.length ss2 = true) (hm : mem.length ≤ m1.length) : DS K t ss mem (.nx ss2 m1) :=
  ds_less h (by rw [← e, wipeS_len]) (fun i r q => by
    rw [← e] at q
    exact wipeS_some q) (ownsUnder_ok ho) hm
/-- ahead of a statement -/
theorem ds_pre (ks : List Nat) (e : wipeS ss ks = ss1) (h : DS K t ss1 mem out) : DS K t ss mem out := fun B H al σ Dn S k =>
  h B H al σ Dn (S.less (by rw [← e, wipeS_len]) fun i r q => by
    rw [← e] at q
    exact wipeS_some q) k
/-- for x in ..: the turns leave the names ks (x among them) behind, and more own objects -/
theorem ds_forW {wi : TI} {k : Nat} {tb : TS} {n : Nat} {it : Nat → D} (ks : List Nat) (f : Nat → Sl) (m : Nat → List Mc) (f0 : wipeS ss ks = f 0) (hi : DI K wi (f 0) mem n it (m 0)) (hlen : ∀ i, (m i).length = (m (i + 1)).length)
    (ho : ∀ i, ownsUnder (m i).length (f i) = true)
    (step : ∀ i, i < n → ∃ s' more, DS K tb ((f i).set k (some (.dat (it i)))) (m i) (.nx s' (m (i + 1) ++ more)) ∧ wipeS s' ks = f (i + 1)) : DS K (tFor wi (gName k) tb) ss mem (.nx (f n) (m n)) :=
  ds_pre ks f0 (ds_for_all hi f m rfl rfl fun i h => by
    obtain ⟨s', more, a, b⟩ := step i h
    exact ⟨_, _, dg_name, ds_shed ks more a b (ho (i + 1)) (by rw [hlen i]; exact Nat.le_refl _)⟩)
/-- where no own object changes -/
theorem ds_forP {wi : TI} {k : Nat} {tb : TS} {n : Nat} {it : Nat → D} (ks : List Nat) (f : Nat → Sl) (f0 : wipeS ss ks = f 0) (hi : DI K wi (f 0) mem n it m1)
    (step : ∀ i, i < n → ∃ s', DS K tb ((f i).set k (some (.dat (it i)))) m1 (.nx s' m1) ∧ wipeS s' ks = f (i + 1)) : DS K (tFor wi (gName k) tb) ss mem (.nx (f n) m1) :=
  ds_pre ks f0 (ds_for_all hi f (fun _ => m1) rfl rfl fun i h => by
    obtain ⟨s', a, b⟩ := step i h
    exact ⟨_, _, dg_name, ds_wipe ks a b⟩)
end
end DL
end
section
set_option Elab.async false
set_option linter.all false
set_option maxRecDepth 100000
/-! len of an instance by its own __len__; range with a step -/
namespace DL
open PySem PySem.Spec PyProof.Rows L2
section
variable {X : Cx} {CX : CXT} {k : Nat} {C f : Addr} {fd : FuncData} {ps : List Str} {sp : Sp} {E : XK}
def rLenOwn (C : Addr) (sp : Sp) (E : XK) : List V → Hp → VK → Prop := fun xs H Q => ∃ a dx fs, xs = [V.ref a] ∧ H a = some (.ins C dx fs) ∧ sp [.ref a] H (fun z H' => ∃ i, z = .int i ∧ 0 ≤ i ∧ i < 2 ^ 63 ∧ Q (.int i) H') E
theorem call_lenOwn (M : Meth X.K C "__len__" f) (F : FnOk X.prog X.w X.K X.mg X.base CX k f fd ps sp) (hr : Room (k + 1) X.A) (hb : Binds X.K fd ps []) (hx : Passes CX X E) : CallR X (.builtin "len") (rLenOwn C sp E) := by
  rintro pins s σ H _ us Q I r ⟨a, dx, fs, rfl, inst, said⟩
  obtain ⟨u, rfl, rfl⟩ : ∃ u, us = [u] ∧ u = Value.ref a := let ⟨u, e, z⟩ := r.one; ⟨u, e, z⟩
  have one : [a].length = ps.length := F.len _ _ _ _ said
  have bound : BindsTo s fd ⟨[.ref a], []⟩ (ps.zip [.ref a]) := by simpa using hb s [.ref a] I.kIn (by simpa using one)
  obtain ⟨_, fr⟩ := I.fr
  have own := (ins_get I.hok inst).choose_spec.1.look.choose_spec.1
  refine PySem.W.len_K fr I.ok.mod.kin own M.at_ M.fn (wpAny_call (codeAny_mono
    (F.run X.A.in1 X.stack s H ⟨[.ref a], []⟩ [.ref a] [.ref a] _ E hr.in1 I.env0.in1 bound (.cons rfl .nil) said) fun fl s' z => ?_))
  match fl, z with
  | .error err, z => exact hx pins σ H s err s' I z
  | .ok (.ret w), z =>
    obtain ⟨_, H', I', rel, i, rfl, ge, lt, k⟩ := I.after z
    obtain ⟨_, rfl⟩ := rel
    exact ⟨⟨ge, lt⟩, .int i, H', I'.tok _, ⟨_, rfl⟩, k⟩
end
section
variable {K : PySem.W.Frag} {ss ss1 ss2 : Sl} {mem m1 m2 m3 m4 : List Mc} {ta tb tc te : TE} {i j : Int} {d e : D} {r r' : Vl} {t u : TS} {out : Out}
theorem dt_lenOwn {C : Addr} {R : List D → D → Prop} {E : XK} {gs : List (Str × D)} (h : DT K te ss mem (.dat (.obj C gs)) m1) (hR : R [.obj C gs] (.int i)) (h0 : 0 ≤ i) (h1 : i < 2 ^ 63) : DT K (tCB (rLenOwn C (spP K 1 R) E) (tCons te tNil)) ss mem (.dat (.int i)) m1 := fun B H al σ Q S k =>
  h B H al σ _ S fun B1 H1 al1 v P1 S1 r1 => by
    have r0 := r1
    cases r1 with
    | @obj a _ dx fs _ s r =>
      refine ⟨a, dx, fs, rfl, S1.sub _ _ s, B1, [], [.dat (.obj C gs)], [], .int i, [], ⟨[.obj C gs], rfl, rfl, rfl, hR⟩, rfl, rfl, pack_slots S1.sub (.cons r0 .nil), fun B' H' v P S' rv => ?_⟩
      cases rv
      obtain ⟨P2, S2⟩ := S1.after P S'.sub
      exact ⟨i, rfl, h0, h1, k _ _ _ _ (P1.trans P2) S2 (.int i)⟩
theorem walks_rangeC (B : Hp) (lo c : Int) (n : Nat) : Walks K B (Itc lo c n) n fun i => .int (lo + (i : Nat) * c) := fun B1 H al σ ss mem e S =>
  ⟨fun i hi => ⟨hi, fun x H' y => by
    obtain ⟨rfl, rfl⟩ := y
    exact ⟨B1, Stp.refl _ _ _, S, .int _⟩⟩, fun i hi => hi⟩
theorem di_rng3 {t : TA} {c : Int} {n : Nat} (h : DA K t ss mem [.int i, .int j, .int c] m1) (hb : RgC i j c n) : DI K (iRng3 t) ss mem n (fun k => .int (i + (k : Nat) * c)) m1 := fun B H al σ R S k =>
  h B H al σ _ S fun B1 H1 al1 vs P1 S1 r1 => by
    cases r1 with
    | cons r1 r2 =>
      cases r2 with
      | cons r2 r3 =>
        cases r3 with
        | cons r3 r4 =>
          cases r4
          cases r1
          cases r2
          cases r3
          exact ⟨i, j, c, n, rfl, hb, k _ _ _ _ P1 S1 (walks_rangeC _ _ _ _)⟩
end
end DL
end
section
set_option Elab.async false
set_option linter.all false
set_option maxRecDepth 100000
/-! dicts whose keys are tuples of ints -/
namespace DL
open PySem PySem.Spec PyProof.Rows L2
theorem ik_inj {a b : List Int} (h : ik a = ik b) : a = b := List.map_inj_right (fun x y e => by injection e) |>.mp h
theorem ik_kV (a : List Int) : (ik a).map kV = a.map V.int := by unfold ik; rw [List.map_map]; rfl
def getI : List (List Int × D) → List Int → Option D
  | [], _ => none
  | p :: m, k => if p.1 = k then some p.2 else getI m k
def putI (m : List (List Int × D)) (k : List Int) (d : D) : List (List Int × D) :=
  if (getI m k).isSome = true then m.map (fun p => if p.1 = k then (p.1, d) else p) else m ++ [(k, d)]
def dropI (m : List (List Int × D)) (k : List Int) : List (List Int × D) := m.filter fun p => decide (p.1 ≠ k)
section
variable {K : PySem.W.Frag} {B B' : Hp}
theorem rep_key {v : V} {ns : List Int} (h : Rep K B v (rowD ns)) : ∃ b, v = .ref b ∧ B b = some (.tup ((ik ns).map kV)) := by
  cases h with
  | tup s r =>
    cases r.ints
    exact ⟨_, rfl, by rw [ik_kV]; exact s⟩
theorem key_rep {b : Addr} {ns : List Int} (h : B b = some (.tup ((ik ns).map kV))) : Rep K B (.ref b) (rowD ns) :=
  .tup (by rw [← ik_kV]; exact h) (RepAll.ofInts ns)
theorem RepKv.get {m : List (List Int × D)} {kvs : List (List L2.Key × V)} (h : RepKv K B kvs m) (k : List Int) :
    (∃ v d, valV kvs (ik k) = some v ∧ getI m k = some d ∧ Rep K B v d) ∨ (valV kvs (ik k) = none ∧ getI m k = none) := by
  induction m generalizing kvs with
  | nil => cases h; exact .inr ⟨rfl, rfl⟩
  | cons p m ih =>
    obtain ⟨f, d⟩ := p
    cases h with
    | @cons _ v vs _ _ h1 h2 =>
      by_cases e : f = k
      · subst e
        exact .inl ⟨v, d, valV_pos rfl, if_pos rfl, h1⟩
      · have e' : ¬ ik f = ik k := fun z => e (ik_inj z)
        rcases ih h2 with ⟨v', d', a, b, c⟩ | ⟨a, b⟩
        · exact .inl ⟨v', d', (valV_neg e').trans a, (if_neg e).trans b, c⟩
        · exact .inr ⟨(valV_neg e').trans a, (if_neg e).trans b⟩
theorem RepKv.len {m : List (List Int × D)} {kvs : List (List L2.Key × V)} (h : RepKv K B kvs m) : kvs.length = m.length := by
  induction m generalizing kvs with
  | nil => cases h; rfl
  | cons p m ih =>
    cases h with
    | cons h1 h2 => rw [List.length_cons, List.length_cons, ih h2]
theorem RepKv.snoc {m : List (List Int × D)} {kvs : List (List L2.Key × V)} {k : List Int} {v : V} {d : D} (h : RepKv K B kvs m) (r : Rep K B v d) : RepKv K B (kvs ++ [(ik k, v)]) (m ++ [(k, d)]) := by
  induction m generalizing kvs with
  | nil => cases h; exact .cons r .nil
  | cons p m ih =>
    cases h with
    | cons h1 h2 => exact .cons h1 (ih h2)
theorem RepKv.repl {m : List (List Int × D)} {kvs : List (List L2.Key × V)} {k : List Int} {v : V} {d : D} (h : RepKv K B kvs m) (r : Rep K B v d) :
    RepKv K B (kvs.map fun kv => if kv.1 = ik k then (kv.1, v) else kv) (m.map fun p => if p.1 = k then (p.1, d) else p) := by
  induction m generalizing kvs with
  | nil => cases h; exact .nil
  | cons p m ih =>
    obtain ⟨f, x⟩ := p
    cases h with
    | @cons _ y vs _ _ h1 h2 =>
      rw [List.map_cons, List.map_cons]
      by_cases e : f = k
      · subst e
        rw [if_pos rfl, if_pos rfl]
        exact .cons r (ih h2)
      · rw [if_neg (fun (z : ik f = ik k) => e (ik_inj z)), if_neg e]
        exact .cons h1 (ih h2)
theorem RepKv.put {m : List (List Int × D)} {kvs : List (List L2.Key × V)} {k : List Int} {v : V} {d : D} (h : RepKv K B kvs m) (r : Rep K B v d) : RepKv K B (putK kvs (ik k) v) (putI m k d) := by
  unfold putK putI
  rw [valV_any]
  rcases h.get k with ⟨v', d', a, b, _⟩ | ⟨a, b⟩
  · rw [a, b]
    exact h.repl r
  · rw [a, b]
    exact h.snoc r
theorem RepKv.drop {m : List (List Int × D)} {kvs : List (List L2.Key × V)} {k : List Int} (h : RepKv K B kvs m) : RepKv K B (dropK kvs (ik k)) (dropI m k) := by
  unfold dropK dropI
  induction m generalizing kvs with
  | nil => cases h; exact .nil
  | cons p m ih =>
    obtain ⟨f, x⟩ := p
    cases h with
    | @cons _ y vs _ _ h1 h2 =>
      rw [List.filter_cons, List.filter_cons]
      by_cases e : f = k
      · subst e
        simp only [ne_eq, not_true_eq_false, decide_false, Bool.false_eq_true, if_false]
        exact ih h2
      · have e' : ¬ ik f = ik k := fun z => e (ik_inj z)
        simp only [ne_eq, e, e', not_false_eq_true, decide_true, if_true]
        exact .cons h1 (ih h2)
theorem RepKv.at {m : List (List Int × D)} {kvs : List (List L2.Key × V)} (h : RepKv K B kvs m) {i : Nat} {k : List L2.Key} {v : V} (e : kvs[i]? = some (k, v)) : ∃ f d, m[i]? = some (f, d) ∧ k = ik f ∧ Rep K B v d := by
  induction m generalizing kvs i with
  | nil => cases h; simp at e
  | cons p m ih =>
    cases h with
    | @cons f y vs d _ h1 h2 =>
      cases i with
      | zero =>
        have e' := Option.some.inj e
        injection e' with e1 e2
        exact ⟨f, d, rfl, e1.symm, e2 ▸ h1⟩
      | succ i => exact ih h2 (i := i) (by simpa using e)
end
/-- what holds the dict m: data, an own one, a locked one -/
inductive IsDic (mem : List Mc) : Vl → List (List Int × D) → Prop
  | dat {m : List (List Int × D)} : IsDic mem (.dat (.dic m)) m
  | own {n : Nat} {m : List (List Int × D)} : mem[n]? = some (.dic m) → IsDic mem (.own n) m
  | lk {m : List (List Int × D)} : IsDic mem (.lk m) m
section
variable {K : PySem.W.Frag} {ss ss1 ss2 : Sl} {mem m1 m2 m3 m4 : List Mc} {ta tb tc te td ty tx tv : TE} {i j : Int} {d e : D} {r r' x : Vl} {t u : TS} {out : Out} {k : List Int} {m : List (List Int × D)}
theorem dic_at {B H : Hp} {al : List Addr} {σ : L2.St} {v : V} (S : Sit K B H al σ ss mem) (hv : VlOk K B al v x) (h : IsDic mem x m) : ∃ a kvs, v = .ref a ∧ Rd H a (.dT kvs) ∧ RepKv K B kvs m := by
  cases h with
  | dat =>
    cases hv with
    | dic s r => exact ⟨_, _, rfl, sameRd S.sub s, r⟩
  | own hm =>
    obtain ⟨a, h1, rfl⟩ := hv
    obtain ⟨_, kvs, h2, h3⟩ := S.mem _ _ _ h1 hm
    exact ⟨a, kvs, rfl, .inl h2, h3⟩
  | lk =>
    obtain ⟨a, o, kvs, rfl, h2, h3⟩ := hv
    exact ⟨a, kvs, rfl, .inr ⟨o, S.sub _ _ h2⟩, h3⟩
theorem dic_get {B H : Hp} {al : List Addr} {σ : L2.St} {v w : V} (S : Sit K B H al σ ss mem) (hv : VlOk K B al v x) (h : IsDic mem x m) (hw : Rep K B w (rowD k)) :
    ∃ a o, v = .ref a ∧ DGet H a w o ∧ ((∃ y d, o = some y ∧ getI m k = some d ∧ Rep K B y d) ∨ (o = none ∧ getI m k = none)) := by
  obtain ⟨a, kvs, rfl, h1, h2⟩ := dic_at S hv h
  obtain ⟨b, rfl, h3⟩ := rep_key hw
  refine ⟨a, valV kvs (ik k), rfl, .inr ⟨kvs, ik k, b, h1, rfl, S.sub _ _ h3, rfl⟩, ?_⟩
  rcases h2.get k with ⟨y, d, e1, e2, e3⟩ | ⟨e1, e2⟩
  · exact .inl ⟨y, d, e1, e2, e3⟩
  · exact .inr ⟨e1, e2⟩
/-- {} -/
theorem dt_dnew : DT K tDNewT ss mem (.own mem.length) (mem ++ [.dic []]) := fun B H al σ Q S k p np => by
  have nb : B p = none := S.sub.free np
  obtain ⟨P, S'⟩ := S.layOwn (o := .dT []) (m := .dic []) np ⟨nb, _, upd_same, .nil⟩
  exact k _ _ _ _ P S' ⟨p, by rw [← S.mlen, List.getElem?_append_right (Nat.le_refl _), Nat.sub_self]; rfl, rfl⟩
/-- d[k] -/
theorem dt_dget (hd : DT K td ss mem x m1) (hy : DT K ty ss m1 (.dat (rowD k)) m2) (hm : IsDic m2 x m) (h : getI m k = some d) : DT K (tDGet td ty) ss mem (.dat d) m2 := fun B H al σ Q S q =>
  hd B H al σ _ S fun B1 H1 al1 v P1 S1 r1 => hy B1 H1 al1 σ _ S1 fun B2 H2 al2 w P2 S2 r2 => by
    obtain ⟨a, o, rfl, g, z⟩ := dic_get S2 (r1.step P2) hm r2
    rcases z with ⟨y, d', rfl, e2, e3⟩ | ⟨_, e2⟩
    · rw [h] at e2
      cases e2
      exact ⟨a, y, rfl, g, q _ _ _ _ (P1.trans P2) S2 e3⟩
    · rw [h] at e2
      cases e2
/-- k in d -/
theorem dt_din (hy : DT K ty ss mem (.dat (rowD k)) m1) (hd : DT K td ss m1 x m2) (hm : IsDic m2 x m) : DT K (tDIn ty td) ss mem (.dat (.bl (getI m k).isSome)) m2 := fun B H al σ Q S q =>
  hy B H al σ _ S fun B1 H1 al1 w P1 S1 r1 => hd B1 H1 al1 σ _ S1 fun B2 H2 al2 v P2 S2 r2 => by
    obtain ⟨a, o, rfl, g, z⟩ := dic_get S2 r2 hm (Rep.mono P2.same _ r1)
    refine ⟨a, o, rfl, g, ?_⟩
    have e : o.isSome = (getI m k).isSome := by
      rcases z with ⟨y, d', rfl, e2, _⟩ | ⟨rfl, e2⟩
      · rw [e2]; rfl
      · rw [e2]; rfl
    rw [e]
    exact q _ _ _ _ (P1.trans P2) S2 (.bl _)
theorem dt_dnotin (hy : DT K ty ss mem (.dat (rowD k)) m1) (hd : DT K td ss m1 x m2) (hm : IsDic m2 x m) : DT K (tDNotIn ty td) ss mem (.dat (.bl (!(getI m k).isSome))) m2 := fun B H al σ Q S q =>
  hy B H al σ _ S fun B1 H1 al1 w P1 S1 r1 => hd B1 H1 al1 σ _ S1 fun B2 H2 al2 v P2 S2 r2 => by
    obtain ⟨a, o, rfl, g, z⟩ := dic_get S2 r2 hm (Rep.mono P2.same _ r1)
    refine ⟨a, o, rfl, g, ?_⟩
    have e : o.isSome = (getI m k).isSome := by
      rcases z with ⟨y, d', rfl, e2, _⟩ | ⟨rfl, e2⟩
      · rw [e2]; rfl
      · rw [e2]; rfl
    rw [e]
    exact q _ _ _ _ (P1.trans P2) S2 (.bl _)
/-- d.get(k, z) -/
theorem dt_dget2 (hd : DT K td ss mem x m1) (hm1 : IsDic m1 x m) (hy : DT K ty ss m1 (.dat (rowD k)) m2) (hx : DT K tx ss m2 (.dat e) m3) (hm : IsDic m3 x m) : DT K (tDGet2 td ty tx) ss mem (.dat ((getI m k).getD e)) m3 := fun B H al σ Q S q =>
  hd B H al σ _ S fun B1 H1 al1 v P1 S1 r1 => by
    obtain ⟨a1, kv1, ev1, q1, _⟩ := dic_at S1 r1 hm1
    refine ⟨a1, ev1, .inr ⟨_, q1⟩, hy B1 H1 al1 σ _ S1 fun B2 H2 al2 w P2 S2 r2 => hx B2 H2 al2 σ _ S2 fun B3 H3 al3 z P3 S3 r3 => ?_⟩
    obtain ⟨a, o, ev, g, zz⟩ := dic_get S3 (r1.step (P2.trans P3)) hm (Rep.mono P3.same _ r2)
    have ea : a = a1 := by
      have e' := ev.symm.trans ev1
      injection e'
    subst ea
    refine ⟨o, g, ?_⟩
    rcases zz with ⟨y, d', rfl, e2, e3⟩ | ⟨rfl, e2⟩
    · rw [e2] at q
      exact q _ _ _ _ ((P1.trans P2).trans P3) S3 e3
    · rw [e2] at q
      exact q _ _ _ _ ((P1.trans P2).trans P3) S3 r3
/-- d[k] = v, d own -/
theorem ds_dput {n : Nat} (hv : DT K tv ss mem (.dat d) m1) (hd : DT K td ss m1 (.own n) m2) (hy : DT K ty ss m2 (.dat (rowD k)) m3) (hm : m3[n]? = some (.dic m)) (hl : m.length < 16777216) :
    DS K (sDPut td ty tv) ss mem (.nx ss (m3.set n (.dic (putI m k d)))) := fun B H al σ Dn S q =>
  hv B H al σ _ S fun B1 H1 al1 v P1 S1 r1 => hd B1 H1 al1 σ _ S1 fun B2 H2 al2 o P2 S2 r2 => hy B2 H2 al2 σ _ S2 fun B3 H3 al3 y P3 S3 r3 => by
    obtain ⟨a, a1, rfl⟩ := r2.step P3
    obtain ⟨b0, kvs, a2, a3⟩ := S3.mem n a _ a1 hm
    obtain ⟨b, rfl, h3⟩ := rep_key r3
    obtain ⟨P4, S4⟩ := S3.write (o := .dT (putK kvs (ik k) v)) (m := .dic (putI m k d)) a1 b0 ⟨b0, _, upd_same, a3.put (Rep.mono (P2.trans P3).same d r1)⟩
    exact ⟨a, _, rfl, DPut.t a2 (S3.sub _ _ h3) (by rw [a3.len, sizeLine_eq]; exact hl), q _ _ _ (((P1.trans P2).trans P3).trans P4) σ S4⟩
/-- an own dict at a slot becomes data, ahead of a statement -/
theorem Sit.frzDic {B H : Hp} {al : List Addr} {σ : L2.St} (S : Sit K B H al σ ss mem) {n : Nat} {v : V} (hv : VlOk K B al v (.own n)) (hm : mem[n]? = some (.dic m)) :
    ∃ B', Stp B H al B' H al ∧ Sit K B' H al σ ss (mem.set n .gone) ∧ Rep K B' v (.dic m) := by
  obtain ⟨a, a1, rfl⟩ := hv
  obtain ⟨b0, kvs, a2, a3⟩ := S.mem n a _ a1 hm
  obtain ⟨P, S'⟩ := S.freeze a1 b0 a2
  exact ⟨_, P, S', .dic (.inl upd_same) (RepKv.mono P.same _ a3)⟩
theorem dt_frzD {n : Nat} (h : DT K te ss mem (.own n) m1) (hm : m1[n]? = some (.dic m)) : DT K te ss mem (.dat (.dic m)) (m1.set n .gone) := fun B H al σ Q S k =>
  h B H al σ _ S fun B1 H1 al1 v P1 S1 r1 => by
    obtain ⟨B2, P2, S2, r2⟩ := S1.frzDic r1 hm
    exact k _ _ _ _ (P1.trans P2) S2 r2
theorem ds_frzD {n : Nat} (i : Nat) (hi : ss[i]? = some (some (.own n))) (hm : mem[n]? = some (.dic m)) (h : DS K t (ss.set i (some (.dat (.dic m)))) (mem.set n .gone) out) : DS K t ss mem out := fun B H al σ Dn S q => by
  obtain ⟨v, h1, h2⟩ := S.slot i _ hi
  obtain ⟨B1, P1, S1, r1⟩ := S.frzDic h2 hm
  have S2 : Sit K B1 H al σ (ss.set i (some (.dat (.dic m)))) (mem.set n .gone) := by
    refine ⟨S1.sub, by rw [List.length_set]; exact S1.len, fun j z e => ?_, S1.mlen, S1.mem, S1.nd, S1.there⟩
    by_cases hj : j = i
    · subst hj
      have hl : j < ss.length := (List.getElem?_eq_some_iff.mp hi).1
      rw [List.getElem?_set_self hl] at e
      have e' := Option.some.inj (Option.some.inj e)
      subst e'
      exact ⟨v, h1, r1⟩
    · rw [List.getElem?_set_ne (Ne.symm hj)] at e
      exact S1.slot j z e
  exact h B1 H al σ Dn S2 fun B2 H2 al2 P2 => q _ _ _ (P1.trans P2)
end
end DL
end
section
set_option Elab.async false
set_option linter.all false
set_option maxRecDepth 100000
/-! dicts that are walked: locked for the while -/
namespace DL
open PySem PySem.Spec PyProof.Rows L2
/-- a dict's lock alone tells them apart -/
structure Alike (B B' : Hp) : Prop where
  oth : ∀ a u, (∀ kvs, ¬ Rd B a (.dT kvs)) → B a = some u → B' a = some u
  dic : ∀ a kvs, Rd B a (.dT kvs) → Rd B' a (.dT kvs)
section
variable {K : PySem.W.Frag} {B B' : Hp}
theorem noRd {a : Addr} {u : HO} (h : B a = some u) (h1 : ∀ kvs, u ≠ .dT kvs) (h2 : ∀ o kvs, u ≠ .frz o (.dT kvs)) : ∀ kvs, ¬ Rd B a (.dT kvs) := fun kvs z => by
  rcases z with z | ⟨o, z⟩
  · rw [h] at z
    exact h1 kvs (Option.some.inj z)
  · rw [h] at z
    exact h2 o kvs (Option.some.inj z)
theorem Alike.L (e : Alike B B') {a : Addr} {xs : List V} (h : SqL K B a xs) : SqL K B' a xs := by
  rcases h with (h | ⟨o, h⟩) | h
  · exact .inl (.inl (e.oth _ _ (noRd h (fun _ z => by cases z) fun _ _ z => by cases z) h))
  · exact .inl (.inr ⟨o, e.oth _ _ (noRd h (fun _ z => by cases z) fun _ _ z => by cases z) h⟩)
  · exact .inr h
theorem Alike.T (e : Alike B B') {a : Addr} {xs : List V} (h : SqT K B a xs) : SqT K B' a xs := by
  rcases h with (h | ⟨o, h⟩) | h
  · exact .inl (.inl (e.oth _ _ (noRd h (fun _ z => by cases z) fun _ _ z => by cases z) h))
  · exact .inl (.inr ⟨o, e.oth _ _ (noRd h (fun _ z => by cases z) fun _ _ z => by cases z) h⟩)
  · exact .inr h
mutual
theorem Rep.alike (e : Alike B B') : ∀ (d : D) {v : V}, Rep K B v d → Rep K B' v d
  | .non, _, h => by cases h; exact .non
  | .bl b, _, h => by cases h; exact .bl b
  | .int i, _, h => by cases h; exact .int i
  | .str x, _, h => by cases h; exact .str x
  | .lst ds, _, h => by
    cases h with
    | lst s r => exact .lst (e.L s) (RepAll.alike e ds r)
  | .tup ds, _, h => by
    cases h with
    | tup s r => exact .tup (e.oth _ _ (noRd s (fun _ z => by cases z) fun _ _ z => by cases z) s) (RepAll.alike e ds r)
  | .ctp ds, _, h => by
    cases h with
    | ctp s r => exact .ctp (e.T s) (RepAll.alike e ds r)
  | .dic ds, _, h => by
    cases h with
    | dic s r => exact .dic (e.dic _ _ s) (RepKv.alike e ds r)
  | .rls ds, _, h => by
    cases h with
    | rls s r => exact .rls (e.oth _ _ (noRd s (fun _ z => by cases z) fun _ _ z => by cases z) s) (RepAll.alike e ds r)
  | .obj C gs, _, h => by
    cases h with
    | obj s r => exact .obj (e.oth _ _ (noRd s (fun _ z => by cases z) fun _ _ z => by cases z) s) (RepFs.alike e gs r)
theorem RepAll.alike (e : Alike B B') : ∀ (ds : List D) {vs : List V}, RepAll K B vs ds → RepAll K B' vs ds
  | [], _, h => by cases h; exact .nil
  | d :: ds, _, h => by
    cases h with
    | cons h1 h2 => exact .cons (Rep.alike e d h1) (RepAll.alike e ds h2)
theorem RepFs.alike (e : Alike B B') : ∀ (ds : List (Str × D)) {vs : List (Str × V)}, RepFs K B vs ds → RepFs K B' vs ds
  | [], _, h => by cases h; exact .nil
  | (f, d) :: ds, _, h => by
    cases h with
    | cons h1 h2 => exact .cons (Rep.alike e d h1) (RepFs.alike e ds h2)
theorem RepKv.alike (e : Alike B B') : ∀ (ds : List (List Int × D)) {vs : List (List L2.Key × V)}, RepKv K B vs ds → RepKv K B' vs ds
  | [], _, h => by cases h; exact .nil
  | (f, d) :: ds, _, h => by
    cases h with
    | cons h1 h2 => exact .cons (Rep.alike e d h1) (RepKv.alike e ds h2)
end
theorem alike_lock {a : Addr} {o : Obj} {kvs : List (List L2.Key × V)} (h : B a = some (.dT kvs)) : Alike B (upd B a (.frz o (.dT kvs))) := by
  refine ⟨fun b u n e => ?_, fun b ks n => ?_⟩
  · have hb : b ≠ a := fun z => n kvs (by rw [z]; exact .inl h)
    rw [upd_ne hb]
    exact e
  · by_cases hb : b = a
    · subst hb
      rcases n with n | ⟨o', n⟩
      · rw [h] at n
        cases n
        exact .inr ⟨o, upd_same⟩
      · rw [h] at n
        cases n
    · rcases n with n | ⟨o', n⟩
      · exact .inl (by rw [upd_ne hb]; exact n)
      · exact .inr ⟨o', by rw [upd_ne hb]; exact n⟩
theorem alike_unlock {a : Addr} {o : Obj} {kvs : List (List L2.Key × V)} (h : B a = some (.frz o (.dT kvs))) : Alike B (upd B a (.dT kvs)) := by
  refine ⟨fun b u n e => ?_, fun b ks n => ?_⟩
  · have hb : b ≠ a := fun z => n kvs (by rw [z]; exact .inr ⟨o, h⟩)
    rw [upd_ne hb]
    exact e
  · by_cases hb : b = a
    · subst hb
      rcases n with n | ⟨o', n⟩
      · rw [h] at n
        cases n
      · rw [h] at n
        cases n
        exact .inl upd_same
    · rcases n with n | ⟨o', n⟩
      · exact .inl (by rw [upd_ne hb]; exact n)
      · exact .inr ⟨o', by rw [upd_ne hb]; exact n⟩
end
section
variable {K : PySem.W.Frag} {ss ss1 ss2 : Sl} {mem m1 m2 m3 m4 : List Mc} {ta tb tc te td ty tx tv : TE} {i j : Int} {d e : D} {r r' x : Vl} {t u : TS} {out : Out} {k : List Int} {m : List (List Int × D)}
/-- the own objects, under a dict's lock that comes or goes -/
theorem McOk.alike {B H B' H' : Hp} {a c : Addr} {m : Mc} (e : Alike B B') (hn : B' a = none → H' a = H a) (h0 : B a = none → B' a = none) (h : McOk K B H a m) : McOk K B' H' a m := by
  cases m with
  | gone => trivial
  | lst ds =>
    obtain ⟨b0, xs, h3, h4⟩ := h
    exact ⟨h0 b0, xs, by rw [hn (h0 b0)]; exact h3, RepAll.alike e ds h4⟩
  | obj C fs =>
    obtain ⟨b0, dx, fv, h3, h4⟩ := h
    exact ⟨h0 b0, dx, fv, by rw [hn (h0 b0)]; exact h3, RepFs.alike e fs h4⟩
  | dic ds =>
    obtain ⟨b0, kv, h3, h4⟩ := h
    exact ⟨h0 b0, kv, by rw [hn (h0 b0)]; exact h3, RepKv.alike e ds h4⟩
/-- slots with nothing said -/
theorem VlOk.alike {B B' : Hp} {al : List Addr} {v : V} (e : Alike B B') : ∀ {r : Vl}, (∀ m, r ≠ .lk m) → VlOk K B al v r → VlOk K B' al v r
  | .dat d, _, h => Rep.alike e d h
  | .own n, _, h => h
  | .tl ds, _, ⟨a, xs, h1, h2, h3⟩ => ⟨a, xs, h1, e.oth _ _ (noRd h2 (fun _ z => by cases z) fun _ _ z => by cases z) h2, RepAll.alike e ds h3⟩
  | .lk m, n, _ => absurd rfl (n m)
/-- no slot holds a locked dict -/
def NoLk (ss : Sl) : Prop := ∀ (i : Nat) (m : List (List Int × D)), ss[i]? ≠ some (some (Vl.lk m))
theorem Sit.lock {B H : Hp} {al : List Addr} {σ : L2.St} {i : Nat} {a : Addr} {o : Obj} {kvs : List (List L2.Key × V)} (S : Sit K B H al σ ss mem) (nl : NoLk ss) (hi : σ[i]? = some (some (.ref a))) (hb : B a = some (.dT kvs)) (r : RepKv K B kvs m) :
    Sit K (upd B a (.frz o (.dT kvs))) (upd H a (.frz o (.dT kvs))) al σ (ss.set i (some (.lk m))) mem := by
  have A := alike_lock (o := o) hb
  refine ⟨fun b u e => ?_, by rw [List.length_set]; exact S.len, fun j z e => ?_, S.mlen, fun n c q h1 h2 => ?_, S.nd, fun c h => ?_⟩
  · by_cases hb' : b = a
    · subst hb'
      rw [upd_same] at e ⊢
      exact e
    · rw [upd_ne hb'] at e ⊢
      exact S.sub b u e
  · by_cases hj : j = i
    · subst hj
      have hl : j < ss.length := by
        have := (List.getElem?_eq_some_iff.mp e).1
        rwa [List.length_set] at this
      rw [List.getElem?_set_self hl] at e
      have e' := Option.some.inj (Option.some.inj e)
      subst e'
      exact ⟨_, hi, a, o, kvs, rfl, upd_same, RepKv.alike A m r⟩
    · rw [List.getElem?_set_ne (Ne.symm hj)] at e
      obtain ⟨v, h1, h2⟩ := S.slot j z e
      exact ⟨v, h1, h2.alike A fun m' z' => nl j m' (by rw [e, z'])⟩
  · refine (S.mem n c q h1 h2).alike (c := a) A (fun z => ?_) fun z => ?_
    · by_cases hc : c = a
      · subst hc
        rw [upd_same] at z
        cases z
      · exact upd_ne hc
    · by_cases hc : c = a
      · subst hc
        rw [hb] at z
        cases z
      · rw [upd_ne hc]
        exact z
  · by_cases hc : c = a
    · subst hc
      rw [upd_same]
      exact fun z => nomatch z
    · rw [upd_ne hc]
      exact S.there c h
/-- behind the lock -/
theorem Sit.unlock {B H B' H' : Hp} {al al' : List Addr} {σ σ' : L2.St} {a : Addr} {o : Obj} {kvs : List (List L2.Key × V)} (S : Sit K B H al σ ss mem) (hb : B a = some (.dT kvs))
    (P : Stp (upd B a (.frz o (.dT kvs))) (upd H a (.frz o (.dT kvs))) al B' H' al') (S' : Sit K B' H' al' σ' ss1 m1) :
    B' a = some (.frz o (.dT kvs)) ∧ H' a = some (.frz o (.dT kvs)) ∧ Stp B H al (upd B' a (.dT kvs)) (upd H' a (.dT kvs)) al' ∧ Same (upd B' a (.dT kvs)) (upd H' a (.dT kvs)) ∧ Alike B' (upd B' a (.dT kvs)) ∧
    (∀ (n : Nat) (c : Addr) (q : Mc), al'[n]? = some c → m1[n]? = some q → McOk K (upd B' a (.dT kvs)) (upd H' a (.dT kvs)) c q) ∧ (∀ c ∈ al', (upd H' a (.dT kvs)) c ≠ none) := by
  have e1 : B' a = some (.frz o (.dT kvs)) := P.same _ _ upd_same
  have e2 : H' a = some (.frz o (.dT kvs)) := S'.sub _ _ e1
  have ha : H a = some (.dT kvs) := S.sub _ _ hb
  have A := alike_unlock e1
  refine ⟨e1, e2, ⟨fun b u e => ?_, fun b u e n => ?_, fun b h => ?_, fun b h => ?_, ?_⟩, fun b u e => ?_, A, fun n c q h1 h2 => ?_, fun c h => ?_⟩
  · by_cases h : b = a
    · subst h
      rw [upd_same]
      exact hb.symm.trans e
    · rw [upd_ne h]
      exact P.same b u (by rw [upd_ne h]; exact e)
  · by_cases h : b = a
    · subst h
      rw [upd_same]
      exact ha.symm.trans e
    · rw [upd_ne h]
      exact P.frame b u (by rw [upd_ne h]; exact e) n
  · by_cases h' : b = a
    · subst h'
      exact .inl (by rw [hb]; exact fun z => nomatch z)
    · rw [upd_ne h'] at h
      have z := P.fresh b h
      rw [upd_ne h', upd_ne h'] at z
      exact z
  · by_cases h' : b = a
    · subst h'
      rw [upd_same]
      exact fun z => nomatch z
    · rw [upd_ne h']
      exact P.stay b (by rw [upd_ne h']; exact h)
  · obtain ⟨ex, q, hx⟩ := P.ext
    refine ⟨ex, q, fun c h => ?_⟩
    have z := hx c h
    by_cases h' : c = a
    · subst h'
      rw [upd_same] at z
      cases z
    · rw [upd_ne h'] at z
      exact z
  · by_cases h : b = a
    · subst h
      rw [upd_same] at e ⊢
      exact e
    · rw [upd_ne h] at e ⊢
      exact S'.sub b u e
  · refine (S'.mem n c q h1 h2).alike (c := a) A (fun z => ?_) fun z => ?_
    · by_cases hc : c = a
      · subst hc
        rw [upd_same] at z
        cases z
      · exact upd_ne hc
    · by_cases hc : c = a
      · subst hc
        rw [e1] at z
        cases z
      · rw [upd_ne hc]
        exact z
  · by_cases hc : c = a
    · subst hc
      rw [upd_same]
      exact fun z => nomatch z
    · rw [upd_ne hc]
      exact S'.there c h
/-- under a lock of its own, or under one that stands -/
def tLkE (t : TE) : TE := fun σ H Q => tLockE t σ H Q ∨ t σ H Q
theorem pe_lk {X : Cx} {e : Expr} {t : TE} (h : PE X e t) : PE X e (tLkE t) := by
  refine ⟨fun pins s σ H Q I q => ?_⟩
  rcases q with q | q
  · exact (pe_lock h).run pins s σ H Q I q
  · exact h.run pins s σ H Q I q
def tLkS (t : TS) : TS := fun D σ H => tLock t D σ H ∨ t D σ H
theorem ps_lk {X : Cx} {st : Stmt} {t : TS} (h : PS X st t) : PS X st (tLkS t) := by
  refine ⟨fun pins s σ H D I q => ?_⟩
  rcases q with q | q
  · exact (ps_lock h).run pins s σ H D I q
  · exact h.run pins s σ H D I q
/-- the dict at slot i is locked while this runs -/
theorem dt_lk (i : Nat) (hi : ss[i]? = some (some (.dat (.dic m)))) (nl : NoLk ss) (hr : ∀ m', r ≠ .lk m') (h : DT K te (ss.set i (some (.lk m))) mem r m1) : DT K (tLkE te) ss mem r m1 := fun B H al σ Q S k => by
  obtain ⟨v, h1, h2⟩ := S.slot i _ hi
  cases h2 with
  | @dic a kvs _ s rk =>
    rcases s with s | ⟨o, s⟩
    · refine .inl ⟨a, .dT kvs, S.sub _ _ s, trivial, fun od => ?_⟩
      refine h _ _ al σ _ (S.lock nl h1 s rk) fun B' H' al' v' P S' rv => ?_
      obtain ⟨e1, e2, P', sub, A, hm, ht⟩ := S.unlock s P S'
      refine ⟨e2, k _ _ _ v' P' ⟨sub, S.len, fun j z e => ?_, S'.mlen, hm, S'.nd, ht⟩ (rv.alike A hr)⟩
      obtain ⟨w, w1, w2⟩ := S.slot j z e
      exact ⟨w, w1, w2.step P'⟩
    · refine .inr (h B H al σ _ ?_ fun B' H' al' v' P S' rv => k _ _ _ v' P (S.back P S') rv)
      refine ⟨S.sub, by rw [List.length_set]; exact S.len, fun j z e => ?_, S.mlen, S.mem, S.nd, S.there⟩
      by_cases hj : j = i
      · subst hj
        have hl : j < ss.length := (List.getElem?_eq_some_iff.mp hi).1
        rw [List.getElem?_set_self hl] at e
        have e' := Option.some.inj (Option.some.inj e)
        subst e'
        exact ⟨_, h1, a, o, kvs, rfl, s, rk⟩
      · rw [List.getElem?_set_ne (Ne.symm hj)] at e
        exact S.slot j z e
/-- k in the locked dict at slot i, its keys in their order -/
theorem di_keys {i : Nat} (hi : ss[i]? = some (some (.lk m))) : DI K (iKeys (tVar i)) ss mem m.length (fun j => rowD (m.getD j ([], .non)).1) mem := fun B H al σ R S k => by
  obtain ⟨v, h1, a, o, kvs, rfl, h2, h3⟩ := S.slot i _ hi
  refine ⟨.ref a, h1, a, o, rfl, .inr ⟨kvs, S.sub _ _ h2, k B H al _ (Stp.refl _ _ _) S fun B1 H1 al1 σ1 ss1 mem1 e1 S1 => ?_⟩⟩
  have h4 : H1 a = some (.frz o (.dT kvs)) := S1.sub _ _ (e1 _ _ h2)
  refine ⟨fun j hj => ⟨⟨h4, by rw [h3.len]; exact hj⟩, fun x H' y => ?_⟩, fun j hj => ⟨h4, by rw [h3.len]; exact hj⟩⟩
  obtain ⟨rfl, kk, w, q, y1, rfl, y2⟩ := y
  obtain ⟨f, d, z1, rfl, z3⟩ := h3.at y1
  have ef : (m.getD j ([], .non)).1 = f := by
    rw [List.getD_eq_getElem?_getD, z1]
    rfl
  show ∃ B', _ ∧ _ ∧ Rep K B' (.ref q) (rowD (m.getD j ([], D.non)).1)
  rw [ef]
  rcases Option.eq_none_or_eq_some (B1 q) with nq | ⟨u, nq⟩
  · -- the key's tuple is taken into the base
    have sB : Same B1 (upd B1 q (.tup ((ik f).map kV))) := fun b u' e => by rw [upd_ne (ne_of_none e nq)]; exact e
    have P : Stp B1 H' al1 (upd B1 q (.tup ((ik f).map kV))) H' al1 := by
      refine ⟨sB, fun b u' e _ => e, fun b h => ?_, fun b h => h, [], by rw [List.append_nil], fun _ h => by cases h⟩
      by_cases e : b = q
      · exact .inr (.inr (.inr ⟨_, by rw [e]; exact y2⟩))
      · rw [upd_ne e] at h
        exact .inl h
    refine ⟨_, P, ⟨fun b u' e => ?_, S1.len, fun l z e => ?_, S1.mlen, fun n c w' g1 g2 => ?_, S1.nd, S1.there⟩, key_rep upd_same⟩
    · by_cases hb : b = q
      · subst hb
        rw [upd_same] at e
        rw [← e]
        exact y2
      · rw [upd_ne hb] at e
        exact S1.sub b u' e
    · obtain ⟨v', v1, v2⟩ := S1.slot l z e
      exact ⟨v', v1, v2.step P⟩
    · have g := S1.mem n c w' g1 g2
      have hc : (∀ ys, H' c ≠ some (.tup ys)) → c ≠ q := fun ht z => ht _ (by rw [z]; exact y2)
      cases w' with
      | gone => trivial
      | lst ds =>
        obtain ⟨b0, xs, g3, g4⟩ := g
        exact ⟨by rw [upd_ne (hc fun ys z => by rw [g3] at z; cases z)]; exact b0, xs, g3, RepAll.mono sB ds g4⟩
      | obj C fs =>
        obtain ⟨b0, dx, fv, g3, g4⟩ := g
        exact ⟨by rw [upd_ne (hc fun ys z => by rw [g3] at z; cases z)]; exact b0, dx, fv, g3, RepFs.mono sB fs g4⟩
      | dic ds =>
        obtain ⟨b0, kv, g3, g4⟩ := g
        exact ⟨by rw [upd_ne (hc fun ys z => by rw [g3] at z; cases z)]; exact b0, kv, g3, RepKv.mono sB ds g4⟩
  · have z := S1.sub _ _ nq
    rw [y2] at z
    cases z
    exact ⟨B1, Stp.refl _ _ _, S1, key_rep nq⟩
/-- within, the locked dict is read -/
theorem dt_varLk {i : Nat} (h : ss[i]? = some (some (.lk m))) : DT K (tVar i) ss mem (.dat (.dic m)) mem := fun B H al σ Q S k => by
  obtain ⟨v, h1, a, o, kvs, rfl, h2, h3⟩ := S.slot i _ h
  exact ⟨_, h1, k _ _ _ _ (Stp.refl _ _ _) S (.dic (.inr ⟨o, h2⟩) h3)⟩
/-- the slot of a locked dict, seen as data again -/
theorem Sit.unLk {B H : Hp} {al : List Addr} {σ : L2.St} {i : Nat} (S : Sit K B H al σ ss mem) (hi : ss[i]? = some (some (.lk m))) : Sit K B H al σ (ss.set i (some (.dat (.dic m)))) mem := by
  refine ⟨S.sub, by rw [List.length_set]; exact S.len, fun j z e => ?_, S.mlen, S.mem, S.nd, S.there⟩
  by_cases hj : j = i
  · subst hj
    have hl : j < ss.length := (List.getElem?_eq_some_iff.mp hi).1
    rw [List.getElem?_set_self hl] at e
    have e' := Option.some.inj (Option.some.inj e)
    subst e'
    obtain ⟨v, h1, a, o, kvs, rfl, h2, h3⟩ := S.slot j _ hi
    exact ⟨_, h1, .dic (.inr ⟨o, h2⟩) h3⟩
  · rw [List.getElem?_set_ne (Ne.symm hj)] at e
    exact S.slot j z e
theorem Sit.toLk {B H : Hp} {al : List Addr} {σ : L2.St} {i : Nat} {a : Addr} {o : Obj} {kvs : List (List L2.Key × V)} (S : Sit K B H al σ ss mem) (hi : ss[i]? = some (some (.dat (.dic m)))) (h1 : σ[i]? = some (some (.ref a))) (s : B a = some (.frz o (.dT kvs))) (rk : RepKv K B kvs m) :
    Sit K B H al σ (ss.set i (some (.lk m))) mem := by
  refine ⟨S.sub, by rw [List.length_set]; exact S.len, fun j z e => ?_, S.mlen, S.mem, S.nd, S.there⟩
  by_cases hj : j = i
  · subst hj
    have hl : j < ss.length := (List.getElem?_eq_some_iff.mp hi).1
    rw [List.getElem?_set_self hl] at e
    have e' := Option.some.inj (Option.some.inj e)
    subst e'
    exact ⟨_, h1, a, o, kvs, rfl, s, rk⟩
  · rw [List.getElem?_set_ne (Ne.symm hj)] at e
    exact S.slot j z e
theorem ds_lkN (i : Nat) (hi : ss[i]? = some (some (.dat (.dic m)))) (nl : NoLk ss) (hs : ss1[i]? = some (some (.lk m))) (nl1 : NoLk (ss1.set i (some (.dat (.dic m))))) (h : DS K t (ss.set i (some (.lk m))) mem (.nx ss1 m1)) :
    DS K (tLkS t) ss mem (.nx (ss1.set i (some (.dat (.dic m)))) m1) := fun B H al σ Dn S k => by
  obtain ⟨v, h1, h2⟩ := S.slot i _ hi
  cases h2 with
  | @dic a kvs _ s rk =>
    rcases s with s | ⟨o, s⟩
    · refine .inl ⟨a, .dT kvs, S.sub _ _ s, trivial, fun od => ?_⟩
      refine h _ _ al σ _ (S.lock nl h1 s rk) fun B' H' al' P σ' S' => ?_
      obtain ⟨e1, e2, P', sub, A, hm, ht⟩ := S.unlock s P S'
      refine ⟨e2, k _ _ _ P' σ' ⟨sub, by rw [List.length_set]; exact S'.len, fun j z e => ?_, S'.mlen, hm, S'.nd, ht⟩⟩
      obtain ⟨w, w1, w2⟩ := (S'.unLk hs).slot j z e
      exact ⟨w, w1, w2.alike A fun m' z' => nl1 j m' (by rw [e, z'])⟩
    · exact .inr (h B H al σ _ (S.toLk hi h1 s rk) fun B' H' al' P σ' S' => k _ _ _ P σ' (S'.unLk hs))
theorem ds_lkR (i : Nat) (hi : ss[i]? = some (some (.dat (.dic m)))) (nl : NoLk ss) (hr : ∀ m', r ≠ .lk m') (h : DS K t (ss.set i (some (.lk m))) mem (.rt r m1)) : DS K (tLkS t) ss mem (.rt r m1) := fun B H al σ Dn S k => by
  obtain ⟨v, h1, h2⟩ := S.slot i _ hi
  cases h2 with
  | @dic a kvs _ s rk =>
    rcases s with s | ⟨o, s⟩
    · refine .inl ⟨a, .dT kvs, S.sub _ _ s, trivial, fun od => ?_⟩
      refine h _ _ al σ _ (S.lock nl h1 s rk) fun B' H' al' P σ' ss' v' S' rv => ?_
      obtain ⟨e1, e2, P', sub, A, hm, ht⟩ := S.unlock s P S'
      refine ⟨e2, k _ _ _ P' σ' (ss'.map fun _ => none) v' ⟨sub, by rw [List.length_map]; exact S'.len, fun j z e => ?_, S'.mlen, hm, S'.nd, ht⟩ (rv.alike A hr)⟩
      rw [List.getElem?_map] at e
      cases q : ss'[j]? with
      | none => rw [q] at e; cases e
      | some y => rw [q] at e; cases e
    · exact .inr (h B H al σ _ (S.toLk hi h1 s rk) fun B' H' al' P => k _ _ _ P)
end
end DL
end
section
set_option Elab.async false
set_option linter.all false
set_option maxRecDepth 100000
/-! defs one of whose arguments, wherever it stands, is an own object that they may change -/
namespace DL
open PySem PySem.Spec PyProof.Rows L2
/-- as the callee sees the argument -/
def re0 : Vl → Vl
  | .own _ => .own 0
  | r => r
def oneR (R : List Vl → Mc → D → Mc → Prop) : Rel := fun args mem d mem' => ∃ m m', mem = [m] ∧ mem' = [m'] ∧ R args m d m'
abbrev spM (K : PySem.W.Frag) (n : Nat) (R : List Vl → Mc → D → Mc → Prop) : Sp := spD K n (oneR R)
/-- arguments of any kind -/
def DAV (K : PySem.W.Frag) (t : TA) (ss : Sl) (mem : List Mc) (rs : List Vl) (mem' : List Mc) : Prop :=
  ∀ (B H : Hp) (al : List Addr) (σ : L2.St) (Q : List V → Hp → Prop), Sit K B H al σ ss mem → (∀ B' H' al' vs, Stp B H al B' H' al' → Sit K B' H' al' σ ss mem' → VlsOk K B' al' vs rs → Q vs H') → t σ H Q
section
variable {K : PySem.W.Frag} {ss ss1 ss2 : Sl} {mem m1 m2 m3 m4 : List Mc} {ta tb tc te : TE} {i j : Int} {d e : D} {r r' : Vl} {t u : TS} {out : Out}
theorem dav_nil : DAV K tNil ss mem [] mem := fun B H al σ Q S k => k _ _ _ [] (Stp.refl _ _ _) S trivial
theorem dav_cons {t : TA} {rs : List Vl} (h1 : DT K ta ss mem r m1) (h2 : DAV K t ss m1 rs m2) : DAV K (tCons ta t) ss mem (r :: rs) m2 := fun B H al σ Q S k =>
  h1 B H al σ _ S fun B1 H1 al1 v P1 S1 r1 => h2 B1 H1 al1 σ _ S1 fun B2 H2 al2 vs P2 S2 r2 => k _ _ _ _ (P1.trans P2) S2 ⟨r1.step P2, r2⟩
theorem VlsOk.get {B : Hp} {al : List Addr} : ∀ {vs : List V} {rs : List Vl} {i : Nat} {r : Vl}, VlsOk K B al vs rs → rs[i]? = some r → ∃ v, vs[i]? = some v ∧ VlOk K B al v r
  | [], [], i, r, _, e => by simp at e
  | v :: vs, r :: rs, 0, q, h, e => ⟨v, rfl, Option.some.inj e ▸ h.1⟩
  | v :: vs, r :: rs, i + 1, q, h, e => VlsOk.get (i := i) h.2 (by simpa using e)
  | [], r :: rs, i, q, h, e => h.elim
  | v :: vs, [], i, q, h, e => h.elim
/-- f(..), one own object among the arguments -/
theorem dt_callM {n p : Nat} {R : List Vl → Mc → D → Mc → Prop} {E : XK} {t : TA} {rs : List Vl} {m m' : Mc} (h : DAV K t ss mem rs m1) (ho : ∀ q ∈ rs, (∃ d, q = .dat d) ∨ q = .own p) (hm : m1[p]? = some m) (hR : R (rs.map re0) m d m') (hn : rs.length = n := by rfl) :
    DT K (tCall (spM K n R) [] E t) ss mem (.dat d) (m1.set p m') := fun B H al σ Q S k =>
  h B H al σ _ S fun B1 H1 al1 vs P1 S1 rv => by
    have hp : p < al1.length := by
      rw [S1.mlen]
      exact (List.getElem?_eq_some_iff.mp hm).1
    have a1 : al1[p]? = some al1[p] := List.getElem?_eq_getElem hp
    generalize al1[p] = a at a1
    refine ⟨B1, [a], rs.map re0, [m], d, [m'], ⟨m, m', rfl, rfl, hR⟩, by rw [List.length_map]; exact hn, rfl, ?_, fun B' H' v P S' rd => ?_⟩
    · rw [List.append_nil]
      refine ⟨S1.sub, by simp only [List.length_map]; exact rv.len, fun i q e => ?_, rfl, fun l c w e1 e2 => ?_, List.pairwise_singleton _ _, fun c hc => ?_⟩
      · simp only [List.getElem?_map, Option.map_eq_some_iff] at e
        obtain ⟨_, ⟨q0, e0, rfl⟩, e2⟩ := e
        cases Option.some.inj e2
        obtain ⟨v, v1, v2⟩ := rv.get e0
        refine ⟨v, by rw [List.getElem?_map, v1]; rfl, ?_⟩
        rcases ho q0 (List.mem_of_getElem? e0) with ⟨d', rfl⟩ | rfl
        · exact v2
        · obtain ⟨x, x1, x2⟩ := v2
          exact ⟨a, rfl, by rw [x2, Option.some.inj (x1.symm.trans a1)]⟩
      · match l, e1, e2 with
        | 0, e1, e2 => exact Option.some.inj e1 ▸ Option.some.inj e2 ▸ S1.mem p a m a1 hm
      · exact List.mem_singleton.mp hc ▸ S1.there a (List.mem_of_getElem? a1)
    · obtain ⟨P2, S2⟩ := S1.after1 a1 P S'.sub (S'.mem 0 a m' rfl rfl)
      exact k _ _ _ _ (P1.trans P2) S2 rd
end
section
variable {P : Program} {w : World} {K : PySem.W.Frag} {mg : Str → Option Value} {base : Heap}
theorem fnM {x qual : Str} {st : Stmt} {f : Addr} {fd : FuncData} {N ps : List Str} {k n : Nat} {R : List Vl → Mc → D → Mc → Prop} (F : Fun K x qual st f fd) (S : FnScope N ps (defScope st)) (hp : ps.length = n)
    (hbody : ∀ (cdv : Value) (A : Around) (outer : List Env) (s : Shared) (H : Hp) (E : XK), Room k (A.deeper (envOfC qual (defScope st) s.heap.objs.size f cdv)) →
      ∃ t, PSs (cxOf CX0 P w K mg base N qual (defScope st) f cdv A outer s H E).nox (defBody st) t ∧
        ∀ args m d m', R args m d m' → args.length = n → Ends1 K t (args.map some ++ List.replicate (N.length - n) none) [m] d [m']) :
    FnOk P w K mg base CX0 (k + 1) f fd ps (spM K n R) := fn_ok F S hp fun cdv A outer s H E hr => by
  obtain ⟨t, ht, h⟩ := hbody cdv A outer s H E hr
  refine ⟨t, ht, fun args mem d mem' hR hn => ?_⟩
  obtain ⟨m, m', rfl, rfl, hR⟩ := hR
  exact h args m d m' hR hn
end
end DL
end
section
set_option Elab.async false
set_option linter.all false
set_option maxRecDepth 100000
/-! {k: v for ..} whose keys are tuples -/
namespace DL
open PySem PySem.Spec PyProof.Rows L2
section
variable {X : Cx}
/-- a store by the block itself, the key a tuple -/
theorem keep_tup {pins : List (Addr × Obj)} {σ : L2.St} {H : Hp} {s : Shared} {E : Value → Shared → Prop} {D b : Addr} {kvs : List (List L2.Key × V)} {k : List L2.Key} {v : V} {r : Value} {Q : Unit → Shared → Prop} (hu : X.A.units < cLine) (I : Inv X pins σ H s)
    (hD : H D = some (.dT kvs)) (hb : H b = some (.tup (k.map kV))) (fits : kvs.length < sizeLine) (rv : RelV v r) (h : ∀ s', Inv X pins σ (upd H D (.dT (putK kvs k v))) s' → Q () s') : wpAny (model X.prog X.w) X.A (dictSet D (.ref b) r) Q E s := by
  obtain ⟨-, low, xs, rel, dd⟩ := dt_of I.hok hD
  have few : xs.length ≤ sizeLine := Nat.le_of_lt (Paired.length rel ▸ fits)
  refine wpAny_dictSet_heap (hsz := few) hu (key_of I.hok hb) dd fun h' dd' but => h _ ?_
  obtain ⟨q, es, ep, there, ex, dat, ents, -, nd⟩ := dd'
  refine d_write (t' := s.toks + (tupleKind (mixKind X.prog X.w)).draws k) I (by rw [hD]; trivial) but ⟨q, there⟩
    ⟨Nat.le_trans (length_putK kvs k v) fits, low, _, (rel.put k hb rv).keeps fun c ys z => ?_, q, es, ep, there, ex, dat, ents, nd⟩
  exact (upd_ne (ne_of z hD fun e => nomatch e)).trans z
/-- what the block asks: a word W for the turns, the dict at a free place -/
def tDcT (wi : TI) (g : TG) (tt : TT) (tk tv : TE) (vs : List Nat) : TE := fun σ H Q => wi σ H fun J H1 => ∀ D, H1 D = none → ∃ W : Nat → Nat → Hp → Prop, (∃ m, W 0 m (upd H1 D (.dT []))) ∧
  ∀ i m H, W i m H → (J.stop i H ∧ Q (.ref D) H) ∨ (J.go i H ∧ ∃ Nx : Hp → Prop, (∀ H', Nx H' → ∃ m' < m, W (i + 1) m' H') ∧
    ∀ x H', J.yld i H x H' → g x (wipe σ vs) H' fun σ2 H2 => wipe σ2 vs = wipe σ vs ∧ tt σ2 H2 fun yes H3 =>
      if yes = true then tk σ2 H3 fun y H4 => tv σ2 H4 fun z H5 => ∃ kvs k b, y = .ref b ∧ H5 D = some (.dT kvs) ∧ H5 b = some (.tup (k.map kV)) ∧ kvs.length < sizeLine ∧ Nx (upd H5 D (.dT (putK kvs k z)))
      else Nx H3)
/-- the block, whatever is done with the dict behind it -/
theorem dcT_block {kx vx tg iter : Expr} {ifs : List Expr} {scope : Scope} {own : List (Str × Nat)} {pos : Pos} {wi : TI} {g : TG} {tt : TT} {tk tv : TE} {pos' : Pos} {use : Option (Value → Sem Unit)} {Qf : Value → Shared → Prop} {pins : List (Addr × Obj)} {s : Shared} {σ : L2.St} {H : Hp} {Q : VK}
    (hc : X.calm = true) (hN : X.N.Nodup) (hu : X.A.units < cLine) (hi : PI X tg iter wi) (ok : BlkOk X.N X.env.scope scope own)
    (inner : ∀ (s : Shared) (H : Hp) (C : Addr) (cl : List (Str × Addr)) (fp : List Addr), PG (X.blk s H scope (compEnvC scope cl C X.env) fp) tg g ∧ PTs (X.blk s H scope (compEnvC scope cl C X.env) fp) ifs tt ∧
      PE (X.blk s H scope (compEnvC scope cl C X.env) fp) kx tk ∧ PE (X.blk s H scope (compEnvC scope cl C X.env) fp) vx tv) (hs : ∀ x, foldedSetIterable iter X.env x = pure x) (I : Inv X pins σ H s) (want : tDcT wi g tt tk tv (own.map (·.2)) σ H Q)
    (hEnd : ∀ D C s' m H', Inv X pins σ H' s' → Q (.ref D) H' → s'.heap.Ns C m → FpOk X pins H' C → compPost (model X.prog X.w) X.A X.xe use Qf (.ref D) C (.ok .next) s') : wpAny (model X.prog X.w) X.A (comprehension (.DictComp kx vx [⟨tg, iter, ifs, 0⟩] scope pos) scope X.env pos' newDict false (eval iter X.env) use) Qf X.xe s := by
  have celled : ∀ y ∈ scope.names, y.2 = .free → ∃ c, X.env.cells.lookup y.1 = some c := fun y hy fr => (ok.free y hy fr).elim (fun z => I.ok.has _ (.inl z)) fun z => I.ok.has _ (.inr z)
  refine wpAny_comprehension_free (use := use) rfl hs (closure_ok celled) ok.kind (fun y hy lo => lo ▸ ok.uniq y hy) (thn (hi.run pins s σ H _ I want) fun _ sa came => thn came fun _ sb got => ?_)
  obtain ⟨it, ft, At, J, Hb, rfl, Ib, T, at0, free0, rest⟩ := got
  refine wpAny_newObj_type (newEnv_comp ?_)
  -- the dict, the block's own frame behind it
  have Ic : Inv X pins σ (upd Hb sb.heap.objs.size (.dT [])) { sb with heap := sb.heap.push { cls := .type "dict", data := .dict #[] } } :=
    Ib.laid (t' := sb.toks) (fun _ _ => Heap.get?_push_of_some _) (Nat.le_refl _) (dt_empty sb.heap Ib.big)
  have old : ∀ b ∈ ft, b < sb.heap.objs.size := fun b hb => let ⟨_, e, _⟩ := T.obj _ _ at0 b hb; Heap.lt_size e
  obtain ⟨W, ⟨m0, w0⟩, each⟩ := rest _ (Ib.hok.fresh (Nat.le_refl _))
  have free1 : ∀ b ∈ ft, FpOk X pins (upd Hb sb.heap.objs.size (.dT [])) b ∧ b < (sb.heap.push { cls := .type "dict", data := .dict #[] }).objs.size := fun b hb =>
    ⟨⟨(upd_ne (Nat.ne_of_lt (old b hb))).trans (free0 b hb).1, (free0 b hb).2⟩, by rw [Heap.size_push]; exact Nat.lt_succ_of_lt (old b hb)⟩
  have at1 : At 0 (sb.heap.push { cls := .type "dict", data := .dict #[] }) := T.keep _ _ _ at0 fun _ _ _ => Heap.get?_push_of_some _
  generalize sb.heap.objs.size = D at *
  generalize hc1 : ({ sb with heap := sb.heap.push { cls := .type "dict", data := .dict #[] } } : Shared) = sc at *
  have eh : sc.heap = sb.heap.push { cls := .type "dict", data := .dict #[] } := by rw [← hc1]
  rw [← eh] at free1 at1
  generalize upd Hb D (.dT []) = Hc at *
  have Id := block_start Ic ok hN free1
  have inr := inner sc Hc sc.heap.objs.size (cellsFrom (sc.heap.objs.size + 1) scope.names (cloFrom X.env.cells scope.names [])) ft
  change codeAny _ _ (.compStart _ 0 _ _ (compEnvC scope (cellsFrom (sc.heap.objs.size + 1) scope.names (cloFrom X.env.cells scope.names [])) sc.heap.objs.size X.env)) (compPost _ _ _ _ _ _ sc.heap.objs.size) _
  generalize hce : compEnvC scope (cellsFrom (sc.heap.objs.size + 1) scope.names (cloFrom X.env.cells scope.names [])) sc.heap.objs.size X.env = ce at Id inr ⊢
  have frame : ce.locals = sc.heap.objs.size := by subst hce; rfl
  have at2 : At 0 (pushCells (sc.heap.push { cls := .type "dict", data := .dict #[] }) scope.names) := T.keep _ _ _ at1 fun _ _ _ e => pushCells_keeps _ _ _ _ (Heap.get?_push_of_some _ e)
  have none1 : ∀ b ∈ ft, Hc b = none := fun b hb => (free1 b hb).1.1
  obtain ⟨pg, pt, pk, pv⟩ := inr
  -- the block's word
  have ours : ∀ {σ' : L2.St} {H' : Hp} {s' : Shared}, Inv (X.blk sc Hc scope ce ft) [] σ' H' s' → (∀ b ∈ ft, H' b = none) → ∀ b ∈ ft, FpOk (X.blk sc Hc scope ce ft) [] H' b := fun In nn b hb =>
    ⟨nn b hb, (In.ok.exf b hb).1, In.ok.exfs b hb, .inl hb, (In.ok.exf b hb).2, fun p hp => by cases hp⟩
  have loop : codeAny (model X.prog X.w) X.A (.compLoop (.DictComp kx vx [⟨tg, iter, ifs, 0⟩] scope pos) 0 (.ref it) (.ref D) ce) (compPost (model X.prog X.w) X.A X.xe use Qf (.ref D) sc.heap.objs.size)
      { sc with heap := pushCells (sc.heap.push { cls := .type "dict", data := .dict #[] }) scope.names } := by
    refine compLoop_anyD (fun n s' => ∃ i H', Inv (X.blk sc Hc scope ce ft) [] (wipe σ (own.map (·.2))) H' s' ∧ At i s'.heap ∧ (∀ b ∈ ft, H' b = none) ∧ W i n H') ?_ m0 ⟨0, Hc, Id, at2, none1, w0⟩
    rintro n sd ⟨i, He, Ie, ate, nonee, we⟩
    rcases each i n He we with ⟨stop, ready⟩ | ⟨go, Nx, next, turn⟩
    · refine thnF (T.done (X.blk sc Hc scope ce ft) rfl rfl rfl hc i [] sd _ He (fun _ _ => False) Ie (ours Ie nonee) ate stop) fun r sf ⟨hr, If⟩ => ?_
      subst hr
      have Ig : Inv X pins σ He sf := Ic.call' (ch := ft) If.os If.base If.hok If.bare fun b hb => let f := (free1 b hb).1; ⟨f.2.2.2.1, f.2.1, f.2.2.2.2.1, f.2.2.2.2.2⟩
      have noFrame : He sc.heap.objs.size = none := frame ▸ (show He ce.locals = none from If.free)
      obtain ⟨m, ns, -⟩ := If.loc
      exact hEnd D sc.heap.objs.size sf m He Ig ready (frame ▸ ns) (Ic.fpOk (Nat.le_refl _) noFrame)
    · refine thnF (T.item (X.blk sc Hc scope ce ft) rfl rfl rfl hc i [] sd _ He (fun _ _ => False) Ie (ours Ie nonee) ate go) fun r sf ⟨u, hr, more⟩ => ?_
      subst hr
      refine thnF more fun _ sg ⟨x, Hg, Ig, rx, yld, atg, noneg⟩ => ?_
      have Ip := Ig.pinned (ours Ig noneg) (T.obj _ _ atg)
      refine thnF (pg.run _ sg _ Hg x u _ Ip rx (turn x Hg yld)) fun _ sh ⟨σh, Hh, Ih, wiped, qh⟩ => ?_
      have again : ∀ {s' : Shared} {H' : Hp}, Inv (X.blk sc Hc scope ce ft) ([] ++ pinsAt ft sg.heap) σh H' s' → Nx H' → ∃ m < n, ∃ i H', Inv (X.blk sc Hc scope ce ft) [] (wipe σ (own.map (·.2))) H' s' ∧ At i s'.heap ∧ (∀ b ∈ ft, H' b = none) ∧ W i m H' := fun {s' H'} In nx => by
        obtain ⟨m', less, w'⟩ := next H' nx
        have still : ∀ b ∈ ft, ∀ o, sg.heap.get? b = some o → s'.heap.get? b = some o ∧ H' b = none := fun b hb o e =>
          let z := In.pin (b, o) (List.mem_append_right _ (List.mem_append_right _ (mem_pinsAt hb e))); ⟨z.1, z.2.1⟩
        refine ⟨m', less, i + 1, H', (In.unpinned (pins := [])).weak (by rw [← wiped, wipe_length]) (fun j v e => (wipe_some (wiped ▸ e)).1), T.keep _ _ _ atg fun b hb o e => (still b hb o e).1, fun b hb => ?_, w'⟩
        obtain ⟨o, e, -⟩ := T.obj _ _ atg b hb
        exact (still b hb o e).2
      refine thnF (pt.run _ sh σh Hh _ Ih qh) fun yes si ⟨Hi, Ii, qi⟩ => ?_
      cases yes with
      | false => exact again Ii (by simpa using qi)
      | true =>
        refine thnF (pk.run _ si σh Hi _ Ii (by simpa using qi)) fun kv sj got => ?_
        obtain ⟨yk, Hj, Ij, rk, qj⟩ := got
        refine thnF (pv.run _ sj σh Hj _ Ij qj) fun vv sk ⟨yv, Hk, Ik, rv, kvs, k, b, ek, hD, hb, fits, nx⟩ => ?_
        subst ek
        cases rk
        exact keep_tup (X := X.blk sc Hc scope ce ft) hu Ik hD hb fits rv fun sl Il => again Il nx
  exact codeAny_compStart_dict loop (T.self X.A 0 _ _ _ at2 loop)
theorem pe_dcT {kx vx tg iter : Expr} {ifs : List Expr} {scope : Scope} {own : List (Str × Nat)} {pos : Pos} {wi : TI} {g : TG} {tt : TT} {tk tv : TE} (hc : X.calm = true) (hN : X.N.Nodup) (hu : X.A.units < cLine) (hi : PI X tg iter wi) (ok : BlkOk X.N X.env.scope scope own)
    (inner : ∀ (s : Shared) (H : Hp) (C : Addr) (cl : List (Str × Addr)) (fp : List Addr), PG (X.blk s H scope (compEnvC scope cl C X.env) fp) tg g ∧ PTs (X.blk s H scope (compEnvC scope cl C X.env) fp) ifs tt ∧
      PE (X.blk s H scope (compEnvC scope cl C X.env) fp) kx tk ∧ PE (X.blk s H scope (compEnvC scope cl C X.env) fp) vx tv) (hs : ∀ x, foldedSetIterable iter X.env x = pure x := by intro _; rfl) :
    PE X (.DictComp kx vx [⟨tg, iter, ifs, 0⟩] scope pos) (tDcT wi g tt tk tv (own.map (·.2))) := ⟨fun pins s σ H Q I want => by
  rw [arm_eval_DictComp]
  refine dcT_block (use := none) hc hN hu hi ok inner hs I want fun D C s' m H' I' q ns f => ⟨m, ns, fun h'' but => ?_⟩
  exact ⟨.ref D, H', I'.turned (t' := s'.toks) (fun b o nb e => (but.2 b nb).trans e) f.1 f.2.1 f.2.2.2.1 f.2.2.2.2.1 f.2.2.2.2.2, rfl, q⟩⟩
/-- x = {..} on one line, x a local name: stored ahead of the block's end -/
theorem ps_setDcT {i : Nat} {y : Str} {py spos : Pos} {kx vx tg iter : Expr} {ifs : List Expr} {scope : Scope} {own : List (Str × Nat)} {pos : Pos} {wi : TI} {g : TG} {tt : TT} {tk tv : TE} (hy : X.N[i]? = some y) (hyl : X.env.scope.names.lookup y = some .local) (hsw : swapsWith (.DictComp kx vx [⟨tg, iter, ifs, 0⟩] scope pos) (some (.Name y py)) spos.line X.env = pure true)
    (hc : X.calm = true) (hN : X.N.Nodup) (hu : X.A.units < cLine) (hi : PI X tg iter wi) (ok : BlkOk X.N X.env.scope scope own)
    (inner : ∀ (s : Shared) (H : Hp) (C : Addr) (cl : List (Str × Addr)) (fp : List Addr), PG (X.blk s H scope (compEnvC scope cl C X.env) fp) tg g ∧ PTs (X.blk s H scope (compEnvC scope cl C X.env) fp) ifs tt ∧
      PE (X.blk s H scope (compEnvC scope cl C X.env) fp) kx tk ∧ PE (X.blk s H scope (compEnvC scope cl C X.env) fp) vx tv) (hs : ∀ x, foldedSetIterable iter X.env x = pure x := by intro _; rfl) :
    PS X (.Assign [.Name y py] (.DictComp kx vx [⟨tg, iter, ifs, 0⟩] scope pos) spos) (tAsg (tDcT wi g tt tk tv (own.map (·.2))) (gName i)) := ⟨fun pins s σ H E I want => by
  rw [exec_Assign_Name_used _ _ _ _ hsw]
  refine wpAny_bind (wpAny_standAt (wpAny_bind ?_))
  show wpAny _ X.A (comprehension (.DictComp kx vx [⟨tg, iter, ifs, 0⟩] scope pos) scope X.env (firstIterPos [⟨tg, iter, ifs, 0⟩] pos) newDict false (eval iter X.env) (some (assign (.Name y py) X.env)) >>= _) _ _ s
  have want' : tDcT wi g tt tk tv (own.map (·.2)) σ H (fun x H1 => gName i x σ H1 E.nx) := want
  refine wpAny_bind (thn (dcT_block (Qf := fun _ s' => SP X pins E .next s') hc hN hu hi ok inner hs I want' fun D C s' m H' I' q ns f => ?_) fun _ s' z => wpAny_pure (wpAny_pure z))
  show wpAny _ _ (assign (.Name y py) X.env (.ref D)) _ _ _
  refine wpAny_assign_Name (store_ok2 (v := V.ref D) I' hN hy (.inl hyl) rfl (fun s2 I2 kept => ?_) (.inr hyl))
  obtain ⟨a, but, at_⟩ := kept
  have apart : C ≠ a := fun e => at_.elim (fun z => f.2.1 (e.trans z)) fun z => f.2.2.2.2.1 y a z e.symm
  exact ⟨m, ns.sameBut but apart, fun h3 but3 => ⟨_, H', I2.turned (t' := s2.toks) (fun b o nb e => (but3.2 b nb).trans e) f.1 f.2.1 f.2.2.2.1 f.2.2.2.2.1 f.2.2.2.2.2, q⟩⟩⟩
theorem swD_true {kx vx : Expr} {gs : List Comprehension} {scope : Scope} {pos py : Pos} {y : Str} {l : Nat} {env : Env} (fn : env.scope.kind = .function) (hy : env.scope.names.lookup y = some .local) (hl : (py.line == pos.line) = true)
    (no : (scope.names.any fun (n, k) => n == y && (k == .local || k == .cell)) = false) : swapsWith (.DictComp kx vx gs scope pos) (some (.Name y py)) l env = pure true := by
  have k1 : env.blockKind = .function := by simp [Env.blockKind, fn]
  have k2 : env.kindOf y = some .local := hy
  simp only [swapsWith, k1, k2, Expr.pos, hl, no]
  rfl
end
end DL
end
section
set_option Elab.async false
set_option linter.all false
set_option maxRecDepth 100000
/-! dict comprehensions, said of data -/
namespace DL
open PySem PySem.Spec PyProof.Rows L2
/-- an object that stands beside the situation -/
structure Beside (B H : Hp) (al : List Addr) (p : Addr) (o : HO) : Prop where
  at_ : H p = some o
  nb : B p = none
  nal : p ∉ al
section
variable {K : PySem.W.Frag} {ss ss1 ss2 : Sl} {mem m1 m2 m3 m4 : List Mc} {ta tb tc te tk tv : TE} {i j : Int} {d e : D} {r r' : Vl} {t u : TS} {out : Out}
theorem Beside.step {B H B' H' : Hp} {al al' : List Addr} {p : Addr} {o : HO} (s : Beside B H al p o) (nt : ∀ xs, o ≠ .tup xs) (P : Stp B H al B' H' al') : Beside B' H' al' p o where
  at_ := P.frame _ _ s.at_ s.nal
  nb := Decidable.byContradiction fun z => by
    rcases P.fresh p z with y | y | y | ⟨xs, y⟩
    · exact y s.nb
    · rw [s.at_] at y
      cases y
    · exact s.nal y
    · rw [s.at_] at y
      exact nt xs (Option.some.inj y)
  nal z := by
    obtain ⟨ex, q, hx⟩ := P.ext
    rw [q] at z
    refine (List.mem_append.mp z).elim s.nal fun y => ?_
    have := hx p y
    rw [s.at_] at this
    cases this
theorem McOk.frame {B H H' : Hp} {a : Addr} {m : Mc} (e : H' a = H a) (h : McOk K B H a m) : McOk K B H' a m := by
  cases m <;> simp only [McOk, e] at h ⊢ <;> exact h
theorem McOk.grow {B B' H : Hp} {a : Addr} {m : Mc} (sm : Same B B') (e : B' a = B a) (h : McOk K B H a m) : McOk K B' H a m := by
  cases m with
  | gone => trivial
  | lst ds => exact ⟨e.trans h.1, h.2.imp fun xs z => ⟨z.1, RepAll.mono sm ds z.2⟩⟩
  | obj C fs =>
    obtain ⟨h0, dx, fv, h3, h4⟩ := h
    exact ⟨e.trans h0, dx, fv, h3, RepFs.mono sm fs h4⟩
  | dic ds => exact ⟨e.trans h.1, h.2.imp fun xs z => ⟨z.1, RepKv.mono sm ds z.2⟩⟩
theorem Sit.beside {B H : Hp} {al : List Addr} {σ : L2.St} {p : Addr} (S : Sit K B H al σ ss mem) (nb : B p = none) (nal : p ∉ al) (o : HO) : Sit K B (upd H p o) al σ ss mem :=
  have na : ∀ a ∈ al, a ≠ p := fun a h z => nal (z ▸ h)
  ⟨fun b u e => (upd_ne (ne_of_none e nb)).trans (S.sub b u e), S.len, S.slot, S.mlen, fun n a m h1 h2 => (S.mem n a m h1 h2).frame (upd_ne (na a (List.mem_of_getElem? h1))), S.nd, fun a h => by
    rw [upd_ne (na a h)]
    exact S.there a h⟩
/-- it becomes data -/
theorem Sit.besideData {B0 H0 B H : Hp} {al0 al : List Addr} {σ : L2.St} {p : Addr} {o : HO} (S : Sit K B H al σ ss mem) (P : Stp B0 H0 al0 B H al) (s : Beside B H al p o) (np : H0 p = none) :
    Stp B0 H0 al0 (upd B p o) H al ∧ Sit K (upd B p o) H al σ ss mem ∧ Same B (upd B p o) := by
  have sB : Same B (upd B p o) := fun b u e => by rw [upd_ne (ne_of_none e s.nb)]; exact e
  refine ⟨⟨P.same.trans sB, P.frame, fun b h => ?_, P.stay, P.ext⟩, ⟨fun b u e => ?_, S.len, fun i r e => ?_, S.mlen, fun n a m h1 h2 => ?_, S.nd, S.there⟩, sB⟩
  · by_cases z : b = p
    · exact .inr (.inl (z ▸ np))
    · exact P.fresh b (by rw [upd_ne z] at h; exact h)
  · by_cases z : b = p
    · subst z
      rw [upd_same] at e
      exact s.at_.trans e
    · exact S.sub b u (by rw [upd_ne z] at e; exact e)
  · obtain ⟨v, h1, h2⟩ := S.slot i r e
    refine ⟨v, h1, ?_⟩
    cases r with
    | dat d => exact Rep.mono sB d h2
    | own n => exact h2
    | tl ds => exact h2.imp fun a z => z.imp fun xs y => ⟨y.1, sB _ _ y.2.1, RepAll.mono sB ds y.2.2⟩
    | lk ds =>
      obtain ⟨a, o', kvs, z1, z2, z3⟩ := h2
      exact ⟨a, o', kvs, z1, sB _ _ z2, RepKv.mono sB ds z3⟩
  · exact (S.mem n a m h1 h2).grow sB (upd_ne fun z => s.nal (z ▸ List.mem_of_getElem? h1))
/-- one turn of a dict comprehension -/
def DcTurn (K : PySem.W.Frag) (g : TG) (tt : TT) (tk tv : TE) (vs : List Nat) (s0 : Sl) (d : D) (acc : List (List Int × D)) (m : List Mc) (acc' : List (List Int × D)) (m' : List Mc) : Prop :=
  ∃ s1 ws, DG K g (wipeS s0 vs) d s1 ws ∧ (∀ w ∈ ws, w ∈ vs) ∧ ((∃ ma mb k x, DB K tt s1 m true ma ∧ DT K tk s1 ma (.dat (rowD k)) mb ∧ DT K tv s1 mb (.dat x) m' ∧ acc' = putI acc k x) ∨ (DB K tt s1 m false m' ∧ acc' = acc))
/-- {k: v for ..}, as data -/
theorem dt_dc {wi : TI} {g : TG} {tt : TT} {vs : List Nat} {n : Nat} {it : Nat → D} (hi : DI K wi ss mem n it m1) (acc : Nat → List (List Int × D)) (m : Nat → List Mc) (a0 : acc 0 = []) (m0 : m 0 = m1) (hlen : ∀ i, i < n → (acc i).length < 16777216)
    (step : ∀ i, i < n → DcTurn K g tt tk tv vs ss (it i) (acc i) (m i) (acc (i + 1)) (m (i + 1))) : DT K (tDcT wi g tt tk tv vs) ss mem (.dat (.dic (acc n))) (m n) := fun B H al σ Q S fin =>
  hi B H al σ _ S fun B1 H1 al1 J P1 S1 wk p np => by
    have nb : B1 p = none := S1.sub.free np
    have nal : p ∉ al1 := fun h => S1.there p h np
    refine ⟨fun i k H' => k = n - i ∧ i ≤ n ∧ ∃ B' al' kvs, Stp B1 H1 al1 B' H' al' ∧ Sit K B' H' al' σ ss (m i) ∧ Beside B' H' al' p (.dT kvs) ∧ RepKv K B' kvs (acc i),
      ⟨n, by omega, Nat.zero_le _, B1, al1, [], (Stp.refl _ _ _).poke np, m0 ▸ S1.beside nb nal _, ⟨upd_same, nb, nal⟩, a0 ▸ .nil⟩, ?_⟩
    rintro i _ H' ⟨rfl, le, B', al', kvs, P', S', side, ra⟩
    obtain ⟨w1, w2⟩ := wk B' H' al' (wipe σ vs) _ _ P'.same (S'.wipe vs)
    by_cases lt : i < n
    · obtain ⟨go, yl⟩ := w1 i lt
      obtain ⟨s1, ws, dg, hws, turn⟩ := step i lt
      refine .inr ⟨go, fun H2 => ∃ B' al' kvs, Stp B1 H1 al1 B' H2 al' ∧ Sit K B' H2 al' σ ss (m (i + 1)) ∧ Beside B' H2 al' p (.dT kvs) ∧ RepKv K B' kvs (acc (i + 1)), fun H2 w => ⟨n - (i + 1), by omega, rfl, lt, w⟩, fun x H2 y => ?_⟩
      obtain ⟨B2, P2, S2, r2⟩ := yl x H2 y
      refine dg B2 H2 al' _ _ x _ S2 r2 fun σ3 S3 hwp => ⟨?_, ?_⟩
      · rw [hwp vs hws]
        refine List.ext_getElem? fun j => ?_
        by_cases hj : j ∈ vs
        · rw [wipe_in hj, wipe_in hj, wipe_length]
        · rw [wipe_out hj]
      · have nt : ∀ xs, HO.dT kvs ≠ .tup xs := fun _ z => nomatch z
        rcases turn with ⟨ma, mb, k, x, db, dk, dv, ea⟩ | ⟨db, ea⟩
        · refine db B2 H2 al' σ3 _ S3 fun B4 H4 al4 P4 S4 => iteT (dk B4 H4 al4 σ3 _ S4 fun B5 H5 al5 kv P5 S5 r5 => dv B5 H5 al5 σ3 _ S5 fun B6 H6 al6 v P6 S6 r6 => ?_)
          have PP := ((P2.trans P4).trans P5).trans P6
          have sd := side.step nt PP
          obtain ⟨b, rfl, kb⟩ := rep_key r5
          have kb6 := S6.sub _ _ (P6.same _ _ kb)
          refine ⟨kvs, ik k, b, rfl, sd.at_, kb6, by rw [ra.len, sizeLine_eq]; exact hlen i lt, B6, al6, _, (P'.trans PP).poke np, (S'.back PP S6).beside sd.nb sd.nal _, ⟨upd_same, sd.nb, sd.nal⟩, ?_⟩
          rw [ea]
          exact (RepKv.mono PP.same _ ra).put r6
        · refine db B2 H2 al' σ3 _ S3 fun B4 H4 al4 P4 S4 => iteF ?_
          have PP := P2.trans P4
          exact ⟨B4, al4, kvs, P'.trans PP, S'.back PP S4, side.step nt PP, ea ▸ RepKv.mono PP.same _ ra⟩
    · have ei : i = n := by omega
      subst ei
      obtain ⟨P2, S2, sB⟩ := S'.besideData P' side np
      exact .inl ⟨w2 _ (Nat.le_refl _), fin _ _ _ _ (P1.trans P2) S2 (.dic (.inl upd_same) (RepKv.mono sB _ ra))⟩
/-- no test, nothing else touched, the keys apart -/
theorem dt_dcMap {wi : TI} {g : TG} {vs : List Nat} {n : Nat} {it : Nat → D} (hi : DI K wi ss mem n it m1) (key : Nat → List Int) (val : Nat → D) (acc : Nat → List (List Int × D)) (a0 : acc 0 = []) (as : ∀ i, i < n → acc (i + 1) = putI (acc i) (key i) (val i)) (hn : n ≤ 16777216)
    (step : ∀ i, i < n → ∃ s1 ws, DG K g (wipeS ss vs) (it i) s1 ws ∧ (∀ w ∈ ws, w ∈ vs) ∧ DT K tk s1 m1 (.dat (rowD (key i))) m1 ∧ DT K tv s1 m1 (.dat (val i)) m1) : DT K (tDcT wi g tYes tk tv vs) ss mem (.dat (.dic (acc n))) m1 := by
  have putLe : ∀ (q : List (List Int × D)) k x, (putI q k x).length ≤ q.length + 1 := fun q k x => by
    unfold putI
    split <;> simp
  have len : ∀ i, i ≤ n → (acc i).length ≤ i := fun i => by
    induction i with
    | zero => intro; rw [a0]; exact Nat.le_refl _
    | succ i ih =>
      intro h
      rw [as i h]
      exact Nat.le_trans (putLe _ _ _) (Nat.succ_le_succ (ih (Nat.le_of_succ_le h)))
  exact dt_dc (tt := tYes) hi acc (fun _ => m1) a0 rfl (fun i h => by have := len i (Nat.le_of_lt h); omega) fun i h => by
    obtain ⟨s1, ws, a, b, c, dd⟩ := step i h
    exact ⟨s1, ws, a, b, .inl ⟨m1, m1, key i, val i, db_yes, c, dd, as i h⟩⟩
end
end DL
end
section
set_option Elab.async false
set_option linter.all false
set_option maxRecDepth 100000
/-! dicts with tuple keys: pop(k), dict(pairs) -/
namespace DL
open PySem PySem.Spec PyProof.Rows L2
section
variable {X : Cx}
def rPop1T : V → List V → Hp → VK → Prop := fun x xs H Q => ∃ (a : Addr) (kvs : List (List L2.Key × V)) (k : List L2.Key) (b : Addr) (v : V), x = .ref a ∧ xs = [.ref b] ∧ H a = some (.dT kvs) ∧ H b = some (.tup (k.map kV)) ∧ valV kvs k = some v ∧ Q v (upd H a (.dT (dropK kvs k)))
theorem mt_pop1T (hu : X.A.units + 1 < cLine) : MtR X "dict.pop" rPop1T := by
  rintro pins s σ H x xs0 v0 us Q I rx rel ⟨a, kvs, k, b, v, rfl, rfl, inD, key, val, fin⟩
  obtain ⟨_, rfl, rk⟩ := rel.one
  cases rk
  cases rx
  obtain ⟨z, low, xs, kt, dd⟩ := dt_of I.hok inD
  obtain ⟨u, eu, ru⟩ := RelO.some_of (v := v) (o := (atKey xs k).map (·.2)) (by rw [← val]; exact kt.val k)
  obtain ⟨p, hp, rfl⟩ := Option.map_eq_some_iff.mp eu
  refine call_pop_heap (more := []) (.inl rfl) (PySem.F.args_dict_pop_2 _ _) (tupleKind_room_in1 hu) (key_of I.hok key) low dd hp (fun h' d' but => ?_) (Paired.length kt ▸ z)
  obtain ⟨q, es, ep, at0, ex, dat, ents, -, nd⟩ := d'
  have obj : ObjOk X.prog X.w (upd H a (.dT (dropK kvs k))) h' a (.dT (dropK kvs k)) :=
    ⟨Nat.le_trans (dropK_le kvs k) z, low, _, (L2.DX.KT_drop k kt).keeps fun c ys y => (upd_ne (ne_of y inD fun e => nomatch e)).trans y, q, es, ep, at0, ex, dat, ents, nd⟩
  exact ⟨v, _, d_write (t' := _) I (by rw [inD]; trivial) but ⟨q, at0⟩ obj, ru, fin⟩
/-- one after the other, a later one in an earlier one's place -/
def putAll (acc kvs : List (List L2.Key × V)) : List (List L2.Key × V) := kvs.foldl (fun c p => putK c p.1 p.2) acc
theorem putAll_len : ∀ (kvs acc : List (List L2.Key × V)), (putAll acc kvs).length ≤ acc.length + kvs.length
  | [], acc => Nat.le_refl _
  | p :: kvs, acc => by
    have h := putAll_len kvs (putK acc p.1 p.2)
    have g := length_putK acc p.1 p.2
    show (putAll (putK acc p.1 p.2) kvs).length ≤ acc.length + (kvs.length + 1)
    omega
theorem KT.putAll {H : Hp} : ∀ {kvs : List (List L2.Key × V)} {xs : List (List L2.Key × Addr × Value)}, KT H kvs xs → ∀ {acc : List (List L2.Key × V)} {ys : List (List L2.Key × Addr × Value)}, KT H acc ys → KT H (DL.putAll acc kvs) (storedAllH ys xs)
  | [], _, r, acc, ys, g => by cases r; exact g
  | p :: kvs, _, r, acc, ys, g => by
    cases r with
    | @cons _ x _ xs h t =>
      obtain ⟨k, v⟩ := p
      obtain ⟨k', b, u⟩ := x
      obtain ⟨e, hb, ru⟩ := h
      cases e
      exact KT.putAll t (L2.KT.put g k hb ru)
def rDictPrT (K : PySem.W.Frag) : List V → Hp → VK → Prop := fun xs H Q => ∃ (l : Addr) (ps : List Addr) (bs : List Addr) (kvs : List (List L2.Key × V)), xs = [.ref l] ∧ SqL K H l (ps.map V.ref) ∧ ps.length = kvs.length ∧ bs.length = kvs.length ∧
  (∀ (j : Nat) p b k v, ps[j]? = some p → bs[j]? = some b → kvs[j]? = some (k, v) → H p = some (.tup [.ref b, v]) ∧ H b = some (.tup (k.map kV))) ∧ ∀ q, H q = none → Q (.ref q) (upd H q (.dT (putAll [] kvs)))
/-- the pairs as the heap holds them -/
theorem pairsOf {P : Program} {w : World} {H : Hp} {h : Heap} (ok : HOk P w H h) : ∀ (kvs : List (List L2.Key × V)) (ps bs : List Addr), ps.length = kvs.length → bs.length = kvs.length →
    (∀ (j : Nat) p b k v, ps[j]? = some p → bs[j]? = some b → kvs[j]? = some (k, v) → H p = some (.tup [.ref b, v]) ∧ H b = some (.tup (k.map kV))) →
    ∃ xs : List (List L2.Key × Addr × Value), KT H kvs xs ∧ ∀ (j : Nat) x, xs[j]? = some x → ∃ p, ps[j]? = some p ∧ IsTup h p #[.ref x.2.1, x.2.2]
  | [], _, _, _, _, _ => ⟨[], .nil, fun j x e => by simp at e⟩
  | (k, v) :: kvs, [], _, l1, _, _ => by simp at l1
  | (k, v) :: kvs, p :: ps, [], _, l2, _ => by simp at l2
  | (k, v) :: kvs, p :: ps, b :: bs, l1, l2, a => by
    obtain ⟨xs, kt, at_⟩ := pairsOf ok kvs ps bs (Nat.succ.inj l1) (Nat.succ.inj l2) fun j p b k v e1 e2 e3 => a (j + 1) p b k v (by simpa using e1) (by simpa using e2) (by simpa using e3)
    obtain ⟨hp, hb⟩ := a 0 p b k v rfl rfl rfl
    obtain ⟨_, its, rel, tup⟩ := (show ObjOk P w H h p (.tup [.ref b, v]) from ok p _ hp)
    obtain ⟨u1, u, rfl, r1, r2⟩ := vals2 rel
    cases r1
    refine ⟨(k, b, u) :: xs, .cons ⟨rfl, hb, r2⟩ kt, fun j x e => ?_⟩
    cases j with
    | zero => exact ⟨p, rfl, Option.some.inj e ▸ tup⟩
    | succ j =>
      obtain ⟨p', e1, e2⟩ := at_ j x (by simpa using e)
      exact ⟨p', by simpa using e1, e2⟩
theorem KT.keysEq {H : Hp} {kvs : List (List L2.Key × V)} {xs : List (List L2.Key × Addr × Value)} (r : KT H kvs xs) : kvs.map (·.1) = xs.map (·.1) := by
  induction r with
  | nil => rfl
  | cons h t ih => rw [List.map_cons, List.map_cons, ih, h.1]
theorem KT.key {H : Hp} {kvs : List (List L2.Key × V)} {xs : List (List L2.Key × Addr × Value)} (r : KT H kvs xs) : ∀ x ∈ xs, H x.2.1 = some (.tup (x.1.map kV)) := by
  induction r with
  | nil => exact fun _ z => nomatch z
  | cons h t ih =>
    intro x hx
    rcases List.mem_cons.mp hx with z | z
    · rw [z, ← h.1]
      exact h.2.1
    · exact ih x z
theorem call_dictPrT (hc : X.calm = true) (hu : X.A.units + 2 < cLine) : CallR X (.type "dict") (rDictPrT X.K) := by
  rintro pins s σ H _ us Q I rel ⟨l, ps, bs, kvs, rfl, sq, lp, lb, prs, fin⟩
  obtain ⟨_, rfl, ru⟩ := rel.one
  cases ru
  obtain ⟨its, ri, plain, zl⟩ := I.list sq
  obtain ⟨xs, kt, at_⟩ := pairsOf I.hok kvs ps bs lp lb prs
  have few : kvs.length ≤ sizeLine := by rw [List.length_map, lp] at zl; exact zl
  have lx : xs.length = kvs.length := (Paired.length kt).symm
  have items : PairItems s.heap its.toArray (fun j => ps.getD j 0) (xs.map fun x => (Value.ref x.2.1, x.2.2)) := by
    refine ⟨by rw [List.size_toArray, ← ri.length, List.length_map, List.length_map, lp, lx], fun j k v e => ?_⟩
    simp only [List.getElem?_map, Option.map_eq_some_iff] at e
    obtain ⟨x, e1, e2⟩ := e
    obtain ⟨p, p1, p2⟩ := at_ j x e1
    obtain ⟨u, q1, q2⟩ := ri.get (i := j) (x := V.ref p) (by rw [List.getElem?_map, p1]; rfl)
    cases q2
    cases e2
    have ep : ps.getD j 0 = p := by rw [List.getD_eq_getElem?_getD, p1]; rfl
    show its.toArray[j]? = some (Value.ref (ps.getD j 0)) ∧ PairAt s.heap (ps.getD j 0) _ _
    rw [ep]
    exact ⟨by simpa using q1, .inl p2⟩
  have plain' : PlainSeq "list" s.heap l its.toArray := by
    obtain ⟨o, n, e, c, d, z⟩ := plain
    exact ⟨o, n, e, c, d, z⟩
  refine call_dict_pairsH (knd := tupleKind (mixKind X.prog X.w)) (ps := xs) (PairArg.list l its.toArray _ _) (I.ok.hd hc) hu ⟨plain', items⟩
    ⟨by rw [List.length_map], fun i key v e => ?_⟩ (fun h' kp x hx => ?_) (by rw [List.length_map, lx]; exact few) fun h' tk made kp => ?_
  · obtain ⟨x, e1, e2⟩ := Option.map_eq_some_iff.mp ((List.getElem?_map ..).symm.trans e)
    cases e2
    exact ⟨x.1, x.2.1, e1, rfl⟩
  · exact key_of (I.hok.kept fun b u e => kp b u (Nat.ne_of_lt (Heap.lt_size e)) (fun z => nomatch z) e) (KT.key kt x hx)
  · have all_in := KT.putAll kt (acc := []) (ys := []) .nil
    have small := putAll_len kvs []
    rw [List.length_nil, Nat.zero_add] at small
    obtain ⟨q, es, ep, at0, ex, dat, ents, -, nd'⟩ := made
    have all : ∀ b o, s.heap.get? b = some o → h'.get? b = some o := fun b o e => kp b o (fun z => nomatch z) e
    have obj : ObjOk X.prog X.w (upd H s.heap.objs.size (.dT (putAll [] kvs))) h' s.heap.objs.size (.dT (putAll [] kvs)) :=
      ⟨Nat.le_trans small few, beq_eq_false_iff_ne.mpr (Nat.ne_of_gt I.big), _, KT.keeps all_in fun c ys y => (upd_ne (ne_of_none y (I.hok.fresh (Nat.le_refl _)))).trans y, q, es, ep, at0, ex, dat, ents, nd'⟩
    exact ⟨.ref s.heap.objs.size, _, I.laid (t' := tk) all (Nat.le_refl _) obj, rfl, fin _ (I.hok.fresh (Nat.le_refl _))⟩
end
end DL
end
section
set_option Elab.async false
set_option linter.all false
set_option maxRecDepth 100000
/-! dict(d), d a dict with tuple keys whose hashes stand apart -/
namespace DL
open PySem PySem.Spec PyProof.Rows L2
def rDictDT (P : Program) (w : World) : List V → Hp → VK → Prop := fun xs H Q => ∃ (a : Addr) (kvs : List (List L2.Key × V)), xs = [V.ref a] ∧ Rd H a (.dT kvs) ∧ (kvs.map fun p => tupleKeyHash (mixKind P w) p.1).Nodup ∧ ∀ q, H q = none → Q (.ref q) (upd H q (.dT kvs))
theorem call_dictDT {X : Cx} (hu : X.A.units + 2 < cLine) : CallR X (.type "dict") (rDictDT X.prog X.w) := by
  rintro pins s σ H _ us Q I rel ⟨a, kvs, rfl, rd, apart, fin⟩
  obtain ⟨_, rfl, ru⟩ := rel.one
  cases ru
  obtain ⟨few, low, xs, kt, dd⟩ := dt_rd I.hok rd
  have lx : xs.length = kvs.length := (Paired.length kt).symm
  have grow : ∀ b o, s.heap.get? b = some o → (s.heap.push { cls := .type "dict", data := .dict #[] }).get? b = some o := fun b o => Heap.get?_push_of_some _
  have stay : ∀ h', (∀ b o, s.heap.get? b = some o → h'.get? b = some o) → ∀ x ∈ xs, (tupleKind (mixKind X.prog X.w)).is h' x.1 x.2.1 := fun h' k x hx => key_of (I.hok.kept k) (KT.key kt x hx)
  have here : s.heap.objs.size ≠ a := fun e => Nat.lt_irrefl _ (e ▸ dd.lt_size)
  have src := dd.at' (grow a) (stay _ grow)
  have new := Heap.DictOfH.new (knd := tupleKind (mixKind X.prog X.w)) s.heap
  have tups : ∀ x ∈ xs, Shared.TypeIs { s with heap := s.heap.push { cls := .type "dict", data := .dict #[] } } (.ref x.2.1) "tuple" := fun x hx => by
    obtain ⟨o, _, _, e, c, _⟩ := stay _ grow x hx
    exact ⟨o, e, c⟩
  have hashes : (xs.map fun x => (tupleKind (mixKind X.prog X.w)).hash x.1).Nodup := by
    have e : (xs.map fun x => (tupleKind (mixKind X.prog X.w)).hash x.1) = (kvs.map (·.1)).map (tupleKeyHash (mixKind X.prog X.w)) := by
      rw [KT.keysEq kt, List.map_map]
      rfl
    rw [e, List.map_map]
    exact apart
  refine callType_codes F.kt_called_dict (F.kt_typeCall_dict_1 _) F.entry_dict_init (kt_code_dict_new (Q₁ := fun v t => v = .ref s.heap.objs.size ∧ t = { s with heap := s.heap.push { cls := .type "dict", data := .dict #[] } }) _ ⟨rfl, rfl⟩) ?_
  rintro _ _ ⟨rfl, rfl⟩
  refine ⟨new.typeIs, F.args_dict_init_2 _ _, ?_⟩
  unfold Builtin.«dict.__init__» Builtin.Dict.selfAndRest
  refine wpAny_bind (wpAny_bind (wpAny_notOrdered_dict new.typeIs (wpAny_pure ?_)))
  refine updateFrom_dictH (A := X.A.in1) (knd := tupleKind (mixKind X.prog X.w)) (kvs := []) .none hu here low new src (.inr ⟨tups, hashes⟩) (by rw [lx]; simpa using few) fun h' made _ but => ?_
  rw [storedAllH_nil_of_nodup xs dd.nodup] at made
  have all : ∀ b o, s.heap.get? b = some o → h'.get? b = some o := fun b o e => (but.2 b (Nat.ne_of_lt (Heap.lt_size e))).trans (grow b o e)
  obtain ⟨q, es, ep, at0, ex, dat, ents, -, nd⟩ := made
  have obj : ObjOk X.prog X.w (upd H s.heap.objs.size (.dT kvs)) h' s.heap.objs.size (.dT kvs) :=
    ⟨few, beq_eq_false_iff_ne.mpr (Nat.ne_of_gt I.big), xs, KT.keeps kt fun c ys y => (upd_ne (ne_of_none y (I.hok.fresh (Nat.le_refl _)))).trans y, q, es, ep, at0, ex, dat, ents, nd⟩
  exact ⟨rfl, .ref s.heap.objs.size, _, I.laid (t' := s.toks) all (Nat.le_refl _) obj, rfl, fin _ (I.hok.fresh (Nat.le_refl _))⟩
end DL
end
section
set_option Elab.async false
set_option linter.all false
set_option maxRecDepth 100000
/-! None in d, d a dict with tuple keys none of which has None's hash; which hashes stand apart -/
namespace DL
open PySem PySem.Spec PyProof.Rows L2
section
variable {P : Program} {w : World} {A : Around} {E : Value → Shared → Prop} {s : Shared}
/-- nothing is found where no hash is the wanted one -/
theorem find_noHash {d : Addr} {o : Obj} {es : Array DictEntry} {ep : Nat} {h : Int} {Q : Option Nat → Shared → Prop} (ho : s.heap.get? d = some o) (hd : o.data = .dict es ep) (no : ∀ e ∈ es.toList, e.hash ≠ h) (fin : Q none s) :
    wpAny (model P w) A (dictFind d .none h) Q E s := by
  have empty : placesWithHash es.size (fun i => es[i]?.map (·.hash)) h = [] := by
    unfold placesWithHash
    rw [List.filter_eq_nil_iff]
    intro i hi z
    rw [List.mem_range] at hi
    dsimp only at z
    rw [Array.getElem?_eq_getElem hi] at z
    exact no es[i] (Array.mem_toList_iff.mpr (Array.getElem_mem hi)) (by simpa using z)
  unfold dictFind
  refine wpAny_holding (wpAny_bind (wpAny_dictEntries ho hd ?_))
  dsimp only
  rw [empty]
  exact wpAny_bind (wpAny_pure (wpAny_pure fin))
theorem in_none {d : Addr} {o : Obj} {es : Array DictEntry} {ep : Nat} {Q : Value → Shared → Prop} (ho : s.heap.get? d = some o) (ex : o.ExactDict) (hd : o.data = .dict es ep) (low : (d == sysModules) = false) (no : ∀ e ∈ es.toList, e.hash ≠ (noneKind P w).hash none)
    (fin : Q (.bool false) { s with toks := s.toks + 1 }) : wpAny (model P w) A (compareOp .In .none (.ref d)) Q E s := by
  have ty : s.TypeIs (.ref d) "dict" := ⟨o, ho, ex.1⟩
  show wpAny _ _ (contains (.ref d) .none >>= fun b => pure (.bool b)) Q E s
  refine wpAny_bind ?_
  unfold contains
  refine wpAny_holding (wpAny_bind (wpAny_specialOf ty slot_dict_contains.lookup ?_))
  rw [if_neg (by decide)]
  refine wpAny_bind (wpAny_callSpecialUnlessNone?_slot (name := Str.ofString "__contains__") ty slot_dict_contains (wpAny_call_entry slot_dict_contains ty entry_dict_contains ?_ (args_dict_contains _ _)))
  show wpAny _ _ (dictGet d .none >>= _) _ _ s
  unfold dictGet
  refine wpAny_bind (wpAny_holding (wpAny_bind ((noneKind P w).pyHash (k := none) rfl (wpAny_bind (find_noHash (s := { s with toks := s.toks + 1 }) ho hd no (wpAny_pure ?_))))))
  show wpAny _ _ (Builtin.Dict.pendingKey? d .none >>= _) _ _ _
  exact wpAny_bind (wpAny_pendingKey_other low (wpAny_pure ⟨_, rfl, wpAny_truthy_bool (wpAny_pure fin)⟩))
end
section
variable {X : Cx} {o i : Expr} {td ty : TE}
/-- None in d: not there -/
def tDNone (P : Program) (w : World) (ty td : TE) : TE := fun σ H Q => ty σ H fun y H1 => td σ H1 fun x H2 => ∃ a kvs, x = .ref a ∧ y = .non ∧ Rd H2 a (.dT kvs) ∧ (∀ p ∈ kvs, tupleKeyHash (mixKind P w) p.1 ≠ reduceHash 0xFCA86420) ∧ Q (.bl false) H2
theorem pc_none (hi : PE X i ty) (ho : PE X o td) : PC X .In i o (tDNone X.prog X.w ty td) := ⟨fun pins s σ H Q I h => by
  refine thn (hi.run pins s σ H _ I h) fun iv s1 got => ?_
  obtain ⟨y, H1, I1, ry, q1⟩ := got
  refine thn (ho.run pins s1 σ H1 _ I1 q1) fun u s2 got => ?_
  obtain ⟨x, H2, I2, rx, a, kvs, rfl, rfl, rd, no, fin⟩ := got
  cases rx
  cases ry
  obtain ⟨_, low, xs, kt, q, es, ep, at0, ex, dat, ents, -⟩ := dt_rd I2.hok rd
  refine in_none at0 ex dat low (fun e he => ?_) ⟨.bl false, H2, I2.tok _, rfl, fin⟩
  rw [ents] at he
  obtain ⟨z, hz, rfl⟩ := List.mem_map.mp he
  have hk : z.1 ∈ kvs.map (·.1) := KT.keysEq kt ▸ List.mem_map_of_mem hz
  obtain ⟨p, hp, ep⟩ := List.mem_map.mp hk
  show tupleKeyHash (mixKind X.prog X.w) z.1 ≠ reduceHash 0xFCA86420
  rw [← ep]
  exact no p hp⟩
/-- y in d, y a tuple or None -/
def tDInZ (P : Program) (w : World) (ty td : TE) : TE := fun σ H Q => tDIn ty td σ H Q ∨ tDNone P w ty td σ H Q
theorem pc_dinZ (hu : X.A.units + 1 < cLine) (hi : PE X i ty) (ho : PE X o td) : PC X .In i o (tDInZ X.prog X.w ty td) := ⟨fun pins s σ H Q I h => h.elim ((pc_din hu hi ho).run pins s σ H Q I) ((pc_none hi ho).run pins s σ H Q I)⟩
end
/-- the hash of a row of ints -/
def rowHash (ns : List Int) : Int := reduceHash (Builtin.Tuple.tupleHashOf (ns.map hashInt))
theorem hash_row (P : Program) (w : World) (ns : List Int) : tupleKeyHash (mixKind P w) (ik ns) = rowHash ns := by
  unfold tupleKeyHash rowHash ik
  rw [List.map_map]
  rfl
theorem RepKv.keys {K : PySem.W.Frag} {B : Hp} {m : List (List Int × D)} {kvs : List (List L2.Key × V)} (h : RepKv K B kvs m) : kvs.map (·.1) = m.map fun p => ik p.1 := by
  induction m generalizing kvs with
  | nil => cases h; rfl
  | cons p m ih =>
    cases h with
    | cons h1 h2 => rw [List.map_cons, List.map_cons, ih h2]
section
variable {K : PySem.W.Frag} {ss ss1 ss2 : Sl} {mem m1 m2 m3 m4 : List Mc} {ta tb tc te td ty tx tv : TE} {i j : Int} {d e : D} {r r' x : Vl} {t u : TS} {out : Out} {k : List Int} {m : List (List Int × D)} {P : Program} {w : World}
theorem dt_dinZ (hy : DT K ty ss mem (.dat (rowD k)) m1) (hd : DT K td ss m1 x m2) (hm : IsDic m2 x m) : DT K (tDInZ P w ty td) ss mem (.dat (.bl (getI m k).isSome)) m2 := fun B H al σ Q S q => .inl (dt_din hy hd hm B H al σ Q S q)
theorem dt_noneIn (hy : DT K ty ss mem (.dat .non) m1) (hd : DT K td ss m1 x m2) (hm : IsDic m2 x m) (no : ∀ p ∈ m, rowHash p.1 ≠ reduceHash 0xFCA86420) : DT K (tDInZ P w ty td) ss mem (.dat (.bl false)) m2 := fun B H al σ Q S q => .inr <|
  hy B H al σ _ S fun B1 H1 al1 v P1 S1 r1 => hd B1 H1 al1 σ _ S1 fun B2 H2 al2 v2 P2 S2 r2 => by
    cases r1
    obtain ⟨a, kvs, rfl, rd, rk⟩ := dic_at S2 r2 hm
    refine ⟨a, kvs, rfl, rfl, rd, fun p hp => ?_, q _ _ _ _ (P1.trans P2) S2 (.bl _)⟩
    have hk : p.1 ∈ m.map fun p => ik p.1 := rk.keys ▸ List.mem_map_of_mem hp
    obtain ⟨z, hz, ez⟩ := List.mem_map.mp hk
    rw [← ez, hash_row]
    exact no z hz
/-- dict(d): a new own dict -/
theorem dt_dictD (hd : DT K td ss mem x m1) (hm : IsDic m1 x m) (ap : (m.map fun p => rowHash p.1).Nodup) : DT K (tCB (rDictDT P w) (tCons td tNil)) ss mem (.own m1.length) (m1 ++ [.dic m]) := fun B H al σ Q S k =>
  hd B H al σ _ S fun B1 H1 al1 v P1 S1 r1 => by
    obtain ⟨a, kvs, rfl, rd, rk⟩ := dic_at S1 r1 hm
    refine ⟨a, kvs, rfl, rd, ?_, fun q nq => ?_⟩
    · have e : (kvs.map fun p => tupleKeyHash (mixKind P w) p.1) = m.map fun p => rowHash p.1 := by
        rw [show (kvs.map fun p => tupleKeyHash (mixKind P w) p.1) = (kvs.map (·.1)).map (tupleKeyHash (mixKind P w)) by rw [List.map_map]; rfl, rk.keys, List.map_map]
        exact List.map_congr_left fun p _ => hash_row P w p.1
      rw [e]
      exact ap
    · obtain ⟨P2, S2⟩ := S1.layOwn (o := .dT kvs) (m := .dic m) nq ⟨S1.sub.free nq, kvs, upd_same, rk⟩
      exact k _ _ _ _ (P1.trans P2) S2 ⟨q, by rw [← S1.mlen, List.getElem?_append_right (Nat.le_refl _), Nat.sub_self]; rfl, rfl⟩
/-- d.pop(k), d own, k there -/
theorem dt_pop1 {n : Nat} {t : TA} (ho : DT K td ss mem (.own n) m1) (hm1 : m1[n]? = some (.dic m)) (ht : DA K t ss m1 [rowD k] m2) (hm : m2[n]? = some (.dic m)) (hv : getI m k = some d) : DT K (tBM K "dict" rPop1T td t) ss mem (.dat d) (m2.set n (.dic (dropI m k))) := fun B H al σ Q S q =>
  ho B H al σ _ S fun B1 H1 al1 v P1 S1 r1 => by
    obtain ⟨a, a1, rfl⟩ := r1
    obtain ⟨_, kv0, a2, a3⟩ := S1.mem n a _ a1 hm1
    refine ⟨.inr (.inr (.inl ⟨rfl, .inr ⟨_, a2⟩⟩)), ht B1 H1 al1 σ _ S1 fun B2 H2 al2 vs P2 S2 r2 => ?_⟩
    obtain ⟨w0, rfl, rw0⟩ := one_data r2
    have a1' := P2.get a1
    obtain ⟨b0, kvs, c2, c3⟩ := S2.mem n a _ a1' hm
    obtain ⟨b, rfl, hb⟩ := rep_key rw0
    rcases c3.get k with ⟨y, d', g1, g2, g3⟩ | ⟨_, g2⟩
    · cases hv.symm.trans g2
      obtain ⟨P3, S3⟩ := S2.write (o := .dT (dropK kvs (ik k))) (m := .dic (dropI m k)) a1' b0 ⟨b0, _, upd_same, c3.drop⟩
      exact ⟨a, kvs, ik k, b, y, rfl, rfl, c2, S2.sub _ _ hb, g1, q _ _ _ _ ((P1.trans P2).trans P3) S3 (Rep.mono P3.same _ g3)⟩
    · cases hv.symm.trans g2
end
/-- all rows of four small ints: places under 5, ice under 7, warm hours under 3, lateness under 5 -/
def rows4 : List (List Int) := (List.range 5).flatMap fun p : Nat => (List.range 7).flatMap fun i : Nat => (List.range 3).flatMap fun h : Nat => (List.range 5).map fun l : Nat => [(p : Int), (i : Int), (h : Int), (l : Int)]
theorem rows4_apart : (rows4.map rowHash).Nodup := by decide +kernel
theorem rows4_none : ∀ k ∈ rows4, rowHash k ≠ reduceHash 0xFCA86420 := by decide +kernel
theorem apart_of {m : List (List Int × D)} (nd : (m.map (·.1)).Nodup) (inn : ∀ p ∈ m, p.1 ∈ rows4) : (m.map fun p => rowHash p.1).Nodup := by
  have inj : ∀ a ∈ rows4, ∀ b ∈ rows4, rowHash a = rowHash b → a = b := fun a ha b hb e => by
    obtain ⟨i, hi, rfl⟩ := List.mem_iff_getElem.mp ha
    obtain ⟨j, hj, rfl⟩ := List.mem_iff_getElem.mp hb
    have hij : i = j := (List.getElem?_inj (l := rows4.map rowHash) (by rw [List.length_map]; exact hi) rows4_apart).mp (by
      rw [List.getElem?_map, List.getElem?_map, List.getElem?_eq_getElem hi, List.getElem?_eq_getElem hj]
      exact congrArg some e)
    subst hij
    rfl
  induction m with
  | nil => exact List.nodup_nil
  | cons p m ih =>
    rw [List.map_cons, List.nodup_cons] at nd ⊢
    refine ⟨fun z => nd.1 ?_, ih nd.2 fun q hq => inn q (List.mem_cons_of_mem _ hq)⟩
    obtain ⟨q, hq, e⟩ := List.mem_map.mp z
    rw [← inj q.1 (inn q (List.mem_cons_of_mem _ hq)) p.1 (inn p List.mem_cons_self) e]
    exact List.mem_map_of_mem hq
end DL
end
section
set_option Elab.async false
set_option linter.all false
set_option maxRecDepth 100000
/-! dict(pairs), list(d), said of data -/
namespace DL
open PySem PySem.Spec PyProof.Rows L2
def pairD (p : List Int × D) : D := .tup [rowD p.1, p.2]
section
variable {K : PySem.W.Frag} {ss ss1 ss2 : Sl} {mem m1 m2 m3 m4 : List Mc} {ta tb tc te td ty tx tv : TE} {i j : Int} {d e : D} {r r' x : Vl} {t u : TS} {out : Out} {k : List Int} {m : List (List Int × D)} {P : Program} {w : World}
theorem RepAll.pairs {B : Hp} : ∀ {m : List (List Int × D)} {vs : List V}, RepAll K B vs (m.map pairD) → ∃ (ps bs : List Addr) (kvs : List (List L2.Key × V)), vs = ps.map V.ref ∧ ps.length = kvs.length ∧ bs.length = kvs.length ∧ RepKv K B kvs m ∧
    ∀ (j : Nat) p b k v, ps[j]? = some p → bs[j]? = some b → kvs[j]? = some (k, v) → B p = some (.tup [.ref b, v]) ∧ B b = some (.tup (k.map kV))
  | [], _, h => by
    cases h
    exact ⟨[], [], [], rfl, rfl, rfl, .nil, fun j p b k v e => by simp at e⟩
  | (k, d) :: m, _, h => by
    cases h with
    | cons h1 h2 =>
      obtain ⟨ps, bs, kvs, rfl, l1, l2, rk, at_⟩ := RepAll.pairs h2
      cases h1 with
      | @tup p xs _ s r =>
        obtain ⟨v1, v2, rfl, r1, r2⟩ := two_data r
        obtain ⟨b, rfl, hb⟩ := rep_key r1
        refine ⟨p :: ps, b :: bs, (ik k, v2) :: kvs, rfl, by simp [l1], by simp [l2], .cons r2 rk, fun j p' b' k' v' e1 e2 e3 => ?_⟩
        cases j with
        | zero =>
          cases e1
          cases e2
          cases e3
          exact ⟨s, hb⟩
        | succ j => exact at_ j p' b' k' v' (by simpa using e1) (by simpa using e2) (by simpa using e3)
def putAllI (acc m : List (List Int × D)) : List (List Int × D) := m.foldl (fun c p => putI c p.1 p.2) acc
theorem RepKv.putAll {B : Hp} : ∀ {m : List (List Int × D)} {kvs : List (List L2.Key × V)}, RepKv K B kvs m → ∀ {acc : List (List L2.Key × V)} {n : List (List Int × D)}, RepKv K B acc n → RepKv K B (DL.putAll acc kvs) (putAllI n m)
  | [], _, h, _, _, g => by cases h; exact g
  | p :: m, _, h, acc, n, g => by
    cases h with
    | cons h1 h2 => exact RepKv.putAll h2 (g.put h1)
/-- dict([(k, v), ..]) -/
theorem dt_dictPr (h : DT K te ss mem (.dat (.lst (m.map pairD))) m1) : DT K (tCB (rDictPrT K) (tCons te tNil)) ss mem (.own m1.length) (m1 ++ [.dic (putAllI [] m)]) := fun B H al σ Q S q =>
  h B H al σ _ S fun B1 H1 al1 v P1 S1 r1 => by
    cases r1 with
    | @lst l xs _ s r =>
      obtain ⟨ps, bs, kvs, rfl, l1, l2, rk, at_⟩ := r.pairs
      refine ⟨l, ps, bs, kvs, rfl, S1.seqL s, l1, l2, fun j p b k v e1 e2 e3 => let z := at_ j p b k v e1 e2 e3; ⟨S1.sub _ _ z.1, S1.sub _ _ z.2⟩, fun c nc => ?_⟩
      obtain ⟨P2, S2⟩ := S1.layOwn (o := .dT (DL.putAll [] kvs)) (m := .dic (putAllI [] m)) nc ⟨S1.sub.free nc, _, upd_same, RepKv.putAll rk .nil⟩
      exact q _ _ _ _ (P1.trans P2) S2 ⟨c, by rw [← S1.mlen, List.getElem?_append_right (Nat.le_refl _), Nat.sub_self]; rfl, rfl⟩
/-- the key tuples of a dict are taken into the base -/
theorem Sit.takeKeys {H : Hp} {al : List Addr} {σ : L2.St} : ∀ {m : List (List Int × D)} {kvs : List (List L2.Key × V)} {bs : List Addr} {B : Hp}, Sit K B H al σ ss mem → RepKv K B kvs m → IsKeys H kvs bs →
    ∃ B', Stp B H al B' H al ∧ Sit K B' H al σ ss mem ∧ RepAll K B' (bs.map V.ref) (m.map fun p => rowD p.1)
  | [], _, _, B, S, rk, ks => by
    cases rk
    cases ks
    exact ⟨B, Stp.refl _ _ _, S, .nil⟩
  | (k, d) :: m, _, _, B, S, rk, ks => by
    cases rk with
    | cons r1 r2 =>
      cases ks with
      | @cons _ b _ bs hb ks =>
        obtain ⟨B1, P1, S1, ra⟩ := Sit.takeKeys S r2 ks
        have done : ∀ B2, Same B1 B2 → B2 b = some (.tup ((ik k).map kV)) → RepAll K B2 (V.ref b :: bs.map V.ref) (rowD k :: m.map fun p => rowD p.1) := fun B2 sm e => .cons (key_rep e) (RepAll.mono sm _ ra)
        rcases Option.eq_none_or_eq_some (B1 b) with nb | ⟨o, eb⟩
        · have sB : Same B1 (upd B1 b (.tup ((ik k).map kV))) := fun c u e => by rw [upd_ne (ne_of_none e nb)]; exact e
          refine ⟨_, P1.trans (B2 := upd B1 b (.tup ((ik k).map kV))) (H2 := H) (al2 := al) ⟨sB, fun _ _ e _ => e, fun c h => ?_, fun _ h => h, [], by rw [List.append_nil], fun _ h => by cases h⟩,
            ⟨fun c u e => ?_, S1.len, fun i r e => ?_, S1.mlen, fun n c q e1 e2 => ?_, S1.nd, S1.there⟩, done _ sB upd_same⟩
          · by_cases z : c = b
            · exact .inr (.inr (.inr ⟨_, z ▸ hb⟩))
            · exact .inl (by rw [upd_ne z] at h; exact h)
          · by_cases z : c = b
            · subst z
              rw [upd_same] at e
              exact e ▸ hb
            · exact S1.sub c u (by rw [upd_ne z] at e; exact e)
          · obtain ⟨v, h1, h2⟩ := S1.slot i r e
            refine ⟨v, h1, ?_⟩
            cases r with
            | dat d => exact Rep.mono sB d h2
            | own n => exact h2
            | tl ds => exact h2.imp fun a z => z.imp fun xs y => ⟨y.1, sB _ _ y.2.1, RepAll.mono sB ds y.2.2⟩
            | lk ds =>
              obtain ⟨a, o', kvs, z1, z2, z3⟩ := h2
              exact ⟨a, o', kvs, z1, sB _ _ z2, RepKv.mono sB ds z3⟩
          · have old := S1.mem n c q e1 e2
            cases q with
            | gone => trivial
            | _ =>
              refine old.grow sB (upd_ne fun z => ?_)
              subst z
              simp only [McOk, hb] at old
              obtain ⟨_, z⟩ := old
              simp at z
        · have z := S1.sub _ _ eb
          rw [hb] at z
          cases z
          exact ⟨B1, P1, S1, done _ (Same.refl _) eb⟩
def rListDT : List V → Hp → VK → Prop := fun xs H Q => ∃ d kvs, xs = [V.ref d] ∧ Rd H d (.dT kvs) ∧ ∀ p bs, H p = none → IsKeys H kvs bs → Q (.ref p) (upd H p (.lst (bs.map V.ref)))
/-- list(d): its keys, as data -/
theorem dt_listD (hd : DT K td ss mem x m1) (hm : IsDic m1 x m) : DT K (tCB rListDT (tCons td tNil)) ss mem (.dat (.lst (m.map fun p => rowD p.1))) m1 := fun B H al σ Q S q =>
  hd B H al σ _ S fun B1 H1 al1 v P1 S1 r1 => by
    obtain ⟨a, kvs, rfl, rd, rk⟩ := dic_at S1 r1 hm
    refine ⟨a, kvs, rfl, rd, fun p bs np ks => ?_⟩
    obtain ⟨B2, P2, S2, ra⟩ := S1.takeKeys rk ks
    obtain ⟨P3, S3⟩ := S2.lay (o := .lst (bs.map V.ref)) np
    exact q _ _ _ _ ((P1.trans P2).trans P3) S3 (.lst (SqL.of upd_same) (RepAll.mono P3.same _ ra))
end
end DL
end
section
set_option Elab.async false
set_option linter.all false
set_option maxRecDepth 100000
/-! dicts of ints, as data -/
namespace DL
open PySem PySem.Spec PyProof.Rows L2
/-- a dict of ints -/
def toD (mi : List (List Int × Int)) : List (List Int × D) := mi.map fun p => (p.1, .int p.2)
def lookI : List (List Int × Int) → List Int → Option Int
  | [], _ => none
  | p :: m, k => if p.1 = k then some p.2 else lookI m k
theorem getI_toD (mi : List (List Int × Int)) (k : List Int) : getI (toD mi) k = (lookI mi k).map D.int := by
  induction mi with
  | nil => rfl
  | cons p m ih =>
    show (if p.1 = k then _ else getI (toD m) k) = (if p.1 = k then _ else lookI m k).map D.int
    by_cases e : p.1 = k
    · rw [if_pos e, if_pos e]; rfl
    · rw [if_neg e, if_neg e]; exact ih
end DL
end
section
set_option Elab.async false
set_option linter.all false
set_option maxRecDepth 100000
/-! xs[::-1], x is True -/
namespace DL
open PySem PySem.Spec PyProof.Rows L2
section
variable {K : PySem.W.Frag} {ss : Sl} {mem m1 m2 : List Mc} {te ta tb : TE} {ds : List D} {a b : Bool}
theorem RepAll.reverse {B : Hp} : ∀ {ds : List D} {vs : List V}, RepAll K B vs ds → RepAll K B vs.reverse ds.reverse
  | [], _, h => by cases h; exact .nil
  | d :: ds, _, h => by
    cases h with
    | cons h1 h2 =>
      rw [List.reverse_cons, List.reverse_cons]
      exact (RepAll.reverse h2).append (.cons h1 .nil)
theorem dt_rev (h : DT K te ss mem (.dat (.lst ds)) m1) : DT K (tRevL K te) ss mem (.dat (.lst ds.reverse)) m1 := fun B H al σ Q S k =>
  h B H al σ _ S fun B1 H1 al1 v P1 S1 r1 => by
    cases r1 with
    | @lst a xs _ s r =>
      refine ⟨a, xs, rfl, S1.seqL s, fun p np => ?_⟩
      obtain ⟨P3, S3⟩ := S1.lay (o := .lst xs.reverse) np
      exact k _ _ _ _ (P1.trans P3) S3 (.lst (SqL.of upd_same) (RepAll.mono P3.same _ r.reverse))
theorem dt_isB (ha : DT K ta ss mem (.dat (.bl a)) m1) (hb : DT K tb ss m1 (.dat (.bl b)) m2) : DT K (tOp rIsB ta tb) ss mem (.dat (.bl (decide (a = b)))) m2 := dt_op ha hb fun B H al σ v w Q S hv hw k => by
  cases hv
  cases hw
  exact ⟨a, b, rfl, rfl, k _ _ _ _ (Stp.refl _ _ _) S (.bl _)⟩
theorem dt_notB (ha : DT K ta ss mem (.dat (.bl a)) m1) (hb : DT K tb ss m1 (.dat (.bl b)) m2) : DT K (tOp rNotB ta tb) ss mem (.dat (.bl (!decide (a = b)))) m2 := dt_op ha hb fun B H al σ v w Q S hv hw k => by
  cases hv
  cases hw
  exact ⟨a, b, rfl, rfl, k _ _ _ _ (Stp.refl _ _ _) S (.bl _)⟩
end
end DL
namespace DL
open PySem PySem.Spec PyProof.Rows L2
theorem rm1 {k : Nat} {A : Around} (r : Room k A) : A.units + 1 < cLine := by have := r.units; omega
theorem rm2 {k : Nat} {A : Around} (r : Room k A) : A.units + 2 < cLine := by have := r.units; omega
end DL
namespace DL
open PySem PySem.Spec PyProof.Rows L2
theorem pcDinZ {X : Cx} {i o : Expr} {ty td : TE} (P : Program) (w : World) (hu : X.A.units + 1 < cLine) (hi : PE X i ty) (ho : PE X o td) (hP : X.prog = P := by rfl) (hw : X.w = w := by rfl) : PC X .In i o (tDInZ P w ty td) := hP ▸ hw ▸ pc_dinZ hu hi ho
/-- max of a list of ints that is data -/
theorem dt_maxL {K : PySem.W.Frag} {ss : Sl} {mem m1 : List Mc} {te : TE} {ns : List Int} {m : Int} (h : DT K te ss mem (.dat (.lst (ns.map .int))) m1) (inn : m ∈ ns) (most : ∀ y ∈ ns, y ≤ m) : DT K (tCB (rMax K) (tCons te tNil)) ss mem (.dat (.int m)) m1 := fun B H al σ Q S k =>
  h B H al σ _ S fun B1 H1 al1 v P1 S1 r1 => by
    cases r1 with
    | @lst a xs _ s r =>
      cases r.ints
      exact ⟨a, ns, rfl, S1.seqL s, List.length_pos_of_mem inn, fun m' h1 h2 => Int.le_antisymm (most m' h1) (h2 m inn) ▸ k _ _ _ _ P1 S1 (.int _)⟩
end DL
namespace DL
open PySem PySem.Spec PyProof.Rows L2
section
variable {K : PySem.W.Frag} {ss : Sl} {mem m1 : List Mc} {r : Vl}
theorem first_true {p : Nat → Bool} : ∀ n, (List.range n).any p = true → ∃ j, j < n ∧ p j = true ∧ ∀ i, i < j → p i = false
  | 0, h => by simp at h
  | n + 1, h => by
    by_cases q : (List.range n).any p = true
    · obtain ⟨j, a, b, c⟩ := first_true n q
      exact ⟨j, Nat.lt_succ_of_lt a, b, c⟩
    · rw [List.range_succ, List.any_append, Bool.or_eq_true] at h
      refine ⟨n, Nat.lt_succ_self n, by simpa using h.resolve_left q, fun i hi => ?_⟩
      cases z : p i with
      | false => rfl
      | true => exact absurd (List.any_eq_true.mpr ⟨i, List.mem_range.mpr hi, z⟩) q
/-- for x in ..: a turn may answer r; the names ks are left behind -/
theorem ds_search {wi : TI} {k : Nat} {tb : TS} {n : Nat} {it : Nat → D} (ks : List Nat) (f : Sl) (f0 : wipeS ss ks = f) (hi : DI K wi f mem n it m1) (p : Nat → Bool)
    (step : ∀ i, i < n → (p i = true → DS K tb (f.set k (some (.dat (it i)))) m1 (.rt r m1)) ∧ (p i = false → ∃ s', DS K tb (f.set k (some (.dat (it i)))) m1 (.nx s' m1) ∧ wipeS s' ks = f)) :
    DS K (tFor wi (gName k) tb) ss mem (if (List.range n).any p = true then .rt r m1 else .nx f m1) := by
  have go : ∀ j, j ≤ n → (∀ i, i < j → p i = false) → ∀ i, i < j → ∃ ss' ws, DG K (gName k) f (it i) ss' ws ∧ (DS K tb ss' m1 (.nx f m1) ∨ DS K tb ss' m1 (.ct f m1)) := fun j le no i hi => by
    obtain ⟨s', a, b⟩ := (step i (by omega)).2 (no i hi)
    exact ⟨_, _, dg_name, .inl (ds_wipe ks a b)⟩
  refine ds_pre ks f0 ?_
  by_cases q : (List.range n).any p = true
  · obtain ⟨j, lt, yes, no⟩ := first_true n q
    rw [if_pos q]
    exact ds_for hi (fun _ => f) (fun _ => m1) rfl rfl j (Nat.le_of_lt lt) (go j (Nat.le_of_lt lt) no) (.inr ⟨lt, _, _, dg_name, .inl ⟨r, m1, (step j lt).1 yes, rfl⟩⟩)
  · rw [if_neg q]
    refine ds_for hi (fun _ => f) (fun _ => m1) rfl rfl n (Nat.le_refl n) (go n (Nat.le_refl n) fun i hi => ?_) (.inl ⟨rfl, rfl⟩)
    cases z : p i with
    | false => rfl
    | true => exact absurd (List.any_eq_true.mpr ⟨i, List.mem_range.mpr hi, z⟩) q
end
end DL
end
section
set_option Elab.async false
set_option linter.all false
set_option maxRecDepth 100000
/-! two names at once, one or both of them own objects; loops with any target -/
namespace DL
open PySem PySem.Spec PyProof.Rows L2
section
variable {K : PySem.W.Frag} {ss ss1 ss2 : Sl} {mem m1 m2 m3 m4 : List Mc} {ta tb tc te : TE} {i j : Int} {d e : D} {r r' : Vl} {t u : TS} {out : Out}
theorem ds_parV {i j : Nat} {ta : TA} (h : DAV K ta ss mem [r, r'] m1) : DS K (tPar i j ta) ss mem (.nx ((ss.set i (some r)).set j (some r')) m1) := fun B H al σ Dn S k =>
  h B H al σ _ S fun B1 H1 al1 vs P1 S1 r1 => by
    match vs, r1 with
    | [v, w], ⟨r1, r2, _⟩ => exact ⟨v, w, rfl, k _ _ _ P1 _ ((S1.put fun q e => by cases e; exact r1).put fun q e => by cases e; exact r2)⟩
theorem ds_forG {wi : TI} {g : TG} {tb : TS} {n : Nat} {it : Nat → D} (ks : List Nat) (f : Nat → Sl) (m : Nat → List Mc) (f0 : wipeS ss ks = f 0) (hi : DI K wi (f 0) mem n it (m 0)) (hlen : ∀ i, (m i).length = (m (i + 1)).length)
    (ho : ∀ i, ownsUnder (m i).length (f i) = true)
    (step : ∀ i, i < n → ∃ s1 ws s' more, DG K g (f i) (it i) s1 ws ∧ DS K tb s1 (m i) (.nx s' (m (i + 1) ++ more)) ∧ wipeS s' ks = f (i + 1)) : DS K (tFor wi g tb) ss mem (.nx (f n) (m n)) :=
  ds_pre ks f0 (ds_for_all hi f m rfl rfl fun i h => by
    obtain ⟨s1, ws, s', more, dg, a, b⟩ := step i h
    exact ⟨s1, ws, dg, ds_shed ks more a b (ho (i + 1)) (by rw [hlen i]; exact Nat.le_refl _)⟩)
theorem db_is {tt : TT} {b c : Bool} (h : DB K tt ss mem b m1) (e : b = c) : DB K tt ss mem c m1 := e ▸ h
end
end DL
end
section
set_option Elab.async false
set_option linter.all false
set_option maxRecDepth 100000
/-! comprehensions over a dict's own keys -/
namespace DL
open PySem PySem.Spec PyProof.Rows L2
theorem range_get {α : Type} (z : α) (l : List α) : (List.range l.length).map (fun i => l.getD i z) = l := by
  refine List.ext_getElem? fun i => ?_
  rw [List.getElem?_map]
  by_cases h : i < l.length
  · rw [List.getElem?_range h, List.getElem?_eq_getElem h]
    show some (l.getD i z) = _
    rw [List.getD_eq_getElem?_getD, List.getElem?_eq_getElem h]
    rfl
  · rw [List.getElem?_eq_none (by rw [List.length_range]; omega), List.getElem?_eq_none (by omega)]
    rfl
theorem range_filter {α β : Type} (z : α) (q : α → Bool) (g : α → β) (l : List α) : ((List.range l.length).filter fun i => q (l.getD i z)).map (fun i => g (l.getD i z)) = (l.filter q).map g := by
  conv => rhs; rw [← range_get z l]
  rw [List.filter_map, List.map_map]
  rfl
theorem getI_fresh {k : List Int} : ∀ {m : List (List Int × D)}, k ∉ m.map (·.1) → getI m k = none
  | [], _ => rfl
  | p :: m, h => by
    rw [List.map_cons, List.mem_cons, not_or] at h
    show (if p.1 = k then some p.2 else getI m k) = none
    rw [if_neg fun z => h.1 z.symm]
    exact getI_fresh h.2
theorem putI_fresh {k : List Int} {d : D} {m : List (List Int × D)} (h : k ∉ m.map (·.1)) : putI m k d = m ++ [(k, d)] := by
  unfold putI
  rw [getI_fresh h]
  rfl
section
variable {K : PySem.W.Frag} {ss ss1 ss2 : Sl} {mem m1 m2 m3 m4 : List Mc} {ta tb tc te td ty tx tv : TE} {d e : D} {r r' x : Vl} {t u : TS} {out : Out} {k : List Int} {m : List (List Int × D)}
/-- {k: v for k in d if t}, d a dict with keys apart, locked already -/
theorem dt_dcKeys0 {i j : Nat} {tt : TT} (hk : ss[i]? = some (some (.lk m))) (hj : j < ss.length) (nd : (m.map (·.1)).Nodup) (few : m.length < 16777216) (q : List Int × D → Bool) (f : List Int × D → D)
    (step : ∀ p ∈ m, DB K tt ((ss.set j none).set j (some (.dat (rowD p.1)))) mem (q p) mem ∧ (q p = true → DT K tv ((ss.set j none).set j (some (.dat (rowD p.1)))) mem (.dat (f p)) mem)) :
    DT K (tDcT (iKeys (tVar i)) (gName j) tt (tVar j) tv [j]) ss mem (.dat (.dic ((m.filter q).map fun p => (p.1, f p)))) mem := by
  let z : List Int × D := ([], .non)
  let acc : Nat → List (List Int × D) := fun n => ((m.take n).filter q).map fun p => (p.1, f p)
  have whole : acc m.length = (m.filter q).map fun p => (p.1, f p) := by
    show ((m.take m.length).filter q).map _ = _
    rw [List.take_length]
  have accLen : ∀ n, (acc n).length ≤ m.length := fun n => by
    show (((m.take n).filter q).map _).length ≤ _
    rw [List.length_map]
    exact Nat.le_trans (List.length_filter_le _ _) (by rw [List.length_take]; omega)
  have next : ∀ n, n < m.length → acc (n + 1) = acc n ++ if q (m.getD n z) = true then [((m.getD n z).1, f (m.getD n z))] else [] := fun n hn => by
    show ((m.take (n + 1)).filter q).map _ = ((m.take n).filter q).map _ ++ _
    rw [List.take_succ, List.getElem?_eq_getElem hn, List.getD_eq_getElem?_getD, List.getElem?_eq_getElem hn]
    show ((m.take n ++ [m[n]]).filter q).map _ = _
    rw [List.filter_append, List.map_append]
    congr 1
    show ([m[n]].filter q).map _ = if q m[n] = true then _ else _
    by_cases h : q m[n] = true
    · rw [if_pos h, List.filter_cons_of_pos h]
      rfl
    · rw [if_neg h, List.filter_cons_of_neg h]
      rfl
  have fresh : ∀ n, n < m.length → (m.getD n z).1 ∉ (acc n).map (·.1) := fun n hn hmem => by
    have e : (acc n).map (·.1) = ((m.take n).filter q).map (·.1) := by
      show (((m.take n).filter q).map _).map _ = _
      rw [List.map_map]
      rfl
    rw [e] at hmem
    obtain ⟨p, hp, ep⟩ := List.mem_map.mp hmem
    have hp' := (List.mem_filter.mp hp).1
    obtain ⟨j, hj, ej⟩ := List.getElem_of_mem hp'
    have hj' : j < n := by
      rw [List.length_take] at hj
      omega
    rw [List.getElem_take] at ej
    have a : (m.map (·.1))[j]? = some (m.getD n z).1 := by
      rw [List.getElem?_map, List.getElem?_eq_getElem (by omega), ej]
      exact congrArg some ep
    have b : (m.map (·.1))[n]? = some (m.getD n z).1 := by
      rw [List.getElem?_map, List.getElem?_eq_getElem hn, List.getD_eq_getElem?_getD, List.getElem?_eq_getElem hn]
      rfl
    exact absurd (nd_ix nd a b) (by omega)
  rw [← whole]
  refine dt_dc (di_keys hk) acc (fun _ => mem) rfl rfl (fun n hn => Nat.lt_of_le_of_lt (accLen n) few) fun n hn => ?_
  have mm : m.getD n z ∈ m := by
    rw [List.getD_eq_getElem?_getD, List.getElem?_eq_getElem hn]
    exact List.getElem_mem hn
  obtain ⟨s1, s2⟩ := step _ mm
  refine ⟨_, [j], dg_name, fun w hw => hw, ?_⟩
  by_cases h : q (m.getD n z) = true
  · refine .inl ⟨mem, mem, (m.getD n z).1, f (m.getD n z), h ▸ s1, dt_var (List.getElem?_set_self (by show j < (ss.set j none).length; rw [List.length_set]; exact hj)), s2 h, ?_⟩
    rw [next n hn, if_pos h]
    exact (putI_fresh (fresh n hn)).symm
  · rw [Bool.not_eq_true] at h
    refine .inr ⟨h ▸ s1, ?_⟩
    rw [next n hn, h, if_neg Bool.false_ne_true, List.append_nil]
/-- {k: v for k in d if t}, d a dict with keys apart -/
theorem dt_dcKeys {i j : Nat} {tt : TT} (hi : ss[i]? = some (some (.dat (.dic m)))) (nl : NoLk ss) (hj : j < ss.length) (nd : (m.map (·.1)).Nodup) (few : m.length < 16777216) (q : List Int × D → Bool) (f : List Int × D → D)
    (step : ∀ p ∈ m, DB K tt (((ss.set i (some (.lk m))).set j none).set j (some (.dat (rowD p.1)))) mem (q p) mem ∧ (q p = true → DT K tv (((ss.set i (some (.lk m))).set j none).set j (some (.dat (rowD p.1)))) mem (.dat (f p)) mem)) :
    DT K (tLkE (tDcT (iKeys (tVar i)) (gName j) tt (tVar j) tv [j])) ss mem (.dat (.dic ((m.filter q).map fun p => (p.1, f p)))) mem :=
  dt_lk i hi nl (fun _ e => nomatch e) (dt_dcKeys0 (List.getElem?_set_self (List.getElem?_eq_some_iff.mp hi).1) (by rw [List.length_set]; exact hj) nd few q f step)
/-- x = {k: v for k in d if t} -/
theorem ds_dcKeys {i j n : Nat} {tt : TT} (hi : ss[i]? = some (some (.dat (.dic m)))) (nl : NoLk ss) (hj : j < ss.length) (hn : n ≠ i) (nd : (m.map (·.1)).Nodup) (few : m.length < 16777216) (q : List Int × D → Bool) (f : List Int × D → D)
    (step : ∀ p ∈ m, DB K tt (((ss.set i (some (.lk m))).set j none).set j (some (.dat (rowD p.1)))) mem (q p) mem ∧ (q p = true → DT K tv (((ss.set i (some (.lk m))).set j none).set j (some (.dat (rowD p.1)))) mem (.dat (f p)) mem))
    (nl1 : NoLk (((ss.set i (some (.lk m))).set n (some (.dat (.dic ((m.filter q).map fun p => (p.1, f p)))))).set i (some (.dat (.dic m))))) :
    DS K (tLkS (tAsg (tDcT (iKeys (tVar i)) (gName j) tt (tVar j) tv [j]) (gName n))) ss mem (.nx (((ss.set i (some (.lk m))).set n (some (.dat (.dic ((m.filter q).map fun p => (p.1, f p)))))).set i (some (.dat (.dic m)))) mem) := by
  have hil := (List.getElem?_eq_some_iff.mp hi).1
  have hk : (ss.set i (some (.lk m)))[i]? = some (some (.lk m)) := List.getElem?_set_self hil
  exact ds_lkN i hi nl (by rw [List.getElem?_set_ne hn]; exact hk) nl1 (ds_set (dt_dcKeys0 hk (by rw [List.length_set]; exact hj) nd few q f step))
def noLkB : Sl → Bool
  | [] => true
  | some (.lk _) :: _ => false
  | _ :: s => noLkB s
theorem noLk_of : ∀ {s : Sl}, noLkB s = true → NoLk s
  | [], _, i, m, e => by simp at e
  | none :: s, h, 0, m, e => by cases e
  | none :: s, h, i + 1, m, e => noLk_of (s := s) h i m (by simpa using e)
  | some (.lk _) :: s, h, _, m, e => by cases h
  | some (.dat d) :: s, h, 0, m, e => by cases e
  | some (.dat d) :: s, h, i + 1, m, e => noLk_of (s := s) h i m (by simpa using e)
  | some (.tl d) :: s, h, 0, m, e => by cases e
  | some (.tl d) :: s, h, i + 1, m, e => noLk_of (s := s) h i m (by simpa using e)
  | some (.own d) :: s, h, 0, m, e => by cases e
  | some (.own d) :: s, h, i + 1, m, e => noLk_of (s := s) h i m (by simpa using e)
/-- [x for k in d if t], d a dict -/
theorem dt_lcKeys {i j : Nat} {tt : TT} (hi : ss[i]? = some (some (.dat (.dic m)))) (nl : NoLk ss) (few : m.length ≤ 16777216) (q : List Int × D → Bool) (f : List Int × D → D)
    (step : ∀ p ∈ m, DB K tt (((ss.set i (some (.lk m))).set j none).set j (some (.dat (rowD p.1)))) mem (q p) mem ∧ (q p = true → DT K tx (((ss.set i (some (.lk m))).set j none).set j (some (.dat (rowD p.1)))) mem (.dat (f p)) mem)) :
    DT K (tLkE (tLc (iKeys (tVar i)) (gName j) tt tx [j])) ss mem (.dat (.lst ((m.filter q).map f))) mem := by
  have hil : i < ss.length := (List.getElem?_eq_some_iff.mp hi).1
  have hk : (ss.set i (some (.lk m)))[i]? = some (some (.lk m)) := List.getElem?_set_self hil
  let z : List Int × D := ([], .non)
  rw [← range_filter z q f m]
  refine dt_lk i hi nl (fun _ e => nomatch e) (dt_lcIf (di_keys hk) (fun i => f (m.getD i z)) (fun i => q (m.getD i z)) few fun n hn => ?_)
  have mm : m.getD n z ∈ m := by
    rw [List.getD_eq_getElem?_getD, List.getElem?_eq_getElem hn]
    exact List.getElem_mem hn
  obtain ⟨s1, s2⟩ := step _ mm
  exact ⟨_, [j], dg_name, fun w hw => hw, s1, s2⟩
/-! ### list(xs), methods, membership of rows -/
def rListOf (K : PySem.W.Frag) : List V → Hp → VK → Prop := fun xs H Q => ∃ p ys, xs = [V.ref p] ∧ (SqL K H p ys ∨ SqT K H p ys) ∧ ∀ l, H l = none → Q (.ref l) (upd H l (.lst ys))
theorem callListOf {X : Cx} (K : PySem.W.Frag) (h : X.K = K := by rfl) : CallR X (.type "list") (rListOf K) := h ▸ call_list_of
theorem dt_listL {ds : List D} (h : DT K te ss mem (.dat (.lst ds)) m1) : DT K (tCB (rListOf K) (tCons te tNil)) ss mem (.dat (.lst ds)) m1 := fun B H al σ Q S q =>
  h B H al σ _ S fun B1 H1 al1 v P1 S1 r1 => by
    cases r1 with
    | @lst l xs _ s r =>
      refine ⟨l, xs, rfl, .inl (S1.seqL s), fun p np => ?_⟩
      obtain ⟨P2, S2⟩ := S1.lay (o := .lst xs) np
      exact q _ _ _ _ (P1.trans P2) S2 (.lst (SqL.of upd_same) (RepAll.mono P2.same _ r))
/-- .. known to lie in the heap -/
theorem dt_listR {ds : List D} (h : DT K te ss mem (.dat (.lst ds)) m1) : DT K (tCB (rListOf K) (tCons te tNil)) ss mem (.dat (.rls ds)) m1 := fun B H al σ Q S q =>
  h B H al σ _ S fun B1 H1 al1 v P1 S1 r1 => by
    cases r1 with
    | @lst l xs _ s r =>
      refine ⟨l, xs, rfl, .inl (S1.seqL s), fun p np => ?_⟩
      obtain ⟨P2, S2⟩ := S1.lay (o := .lst xs) np
      exact q _ _ _ _ (P1.trans P2) S2 (.rls upd_same (RepAll.mono P2.same _ r))
theorem dt_rls {ds : List D} (h : DT K te ss mem (.dat (.rls ds)) m1) : DT K te ss mem (.dat (.lst ds)) m1 := fun B H al σ Q S q =>
  h B H al σ _ S fun B1 H1 al1 v P1 S1 r1 => by
    cases r1 with
    | rls s r => exact q _ _ _ _ P1 S1 (.lst (SqL.of s) r)
/-- xs + [..], xs a list in the heap -/
theorem dt_catR {ds es : List D} (ha : DT K ta ss mem (.dat (.rls ds)) m1) (hb : DT K tb ss m1 (.tl es) m2) (hl : ds.length + es.length ≤ 16777216) : DT K (tOp rCat ta tb) ss mem (.tl (ds ++ es)) m2 :=
  dt_op ha hb fun B H al σ v w Q S hv hw k => by
    cases hv with
    | @rls a xs _ a2 a3 =>
      obtain ⟨b, ys, rfl, b2, b3⟩ := hw
      refine ⟨a, b, xs, ys, rfl, rfl, S.sub _ _ a2, S.sub _ _ b2, by rw [a3.len, b3.len, sizeLine_eq]; exact hl, fun p np => ?_⟩
      obtain ⟨P, S'⟩ := S.lay (o := .lst (xs ++ ys)) np
      exact k _ _ _ _ P S' ⟨p, _, rfl, upd_same, RepAll.mono P.same _ (a3.append b3)⟩
theorem RepFs.nolook {B : Hp} : ∀ {gs : List (Str × D)} {fs : List (Str × V)} {f : Str}, RepFs K B fs gs → gs.lookup f = none → fs.lookup f = none
  | [], _, _, h, _ => by cases h; rfl
  | (g, x) :: gs, _, f, h, e => by
    cases h with
    | cons h1 h2 =>
      rw [List.lookup_cons] at e ⊢
      cases q : f == g with
      | true =>
        rw [q] at e
        cases e
      | false =>
        rw [q] at e
        exact RepFs.nolook h2 e
/-- o.m(..), all of it data -/
theorem dt_meth {C : Addr} {gs : List (Str × D)} {mn : Str} {n : Nat} {R : List D → D → Prop} {E : XK} {t : TA} {ds : List D} (ho : DT K ta ss mem (.dat (.obj C gs)) m1) (hl : gs.lookup mn = none) (h : DA K t ss m1 ds m2) (hR : R (.obj C gs :: ds) d) (hn : ds.length + 1 = n := by rfl) :
    DT K (tMeth C mn (spP K n R) [] E ta t) ss mem (.dat d) m2 := fun B H al σ Q S q =>
  ho B H al σ _ S fun B1 H1 al1 v P1 S1 rv => by
    have rv' := rv
    cases rv with
    | @obj a _ dx fs _ hb rf =>
      refine ⟨a, dx, fs, rfl, S1.sub _ _ hb, rf.nolook hl, h B1 H1 al1 σ _ S1 fun B2 H2 al2 vs P2 S2 rs => ?_⟩
      refine ⟨B2, [], (D.obj C gs :: ds).map Vl.dat, [], d, [], ⟨D.obj C gs :: ds, rfl, rfl, rfl, hR⟩, by rw [List.length_map]; exact hn, rfl, ?_, fun B' H' v P S' rv => ?_⟩
      · rw [List.append_nil]
        exact pack_slots S2.sub (.cons (Rep.mono P2.same _ rv') rs)
      · obtain ⟨P3, S3⟩ := S2.after P S'.sub
        exact q _ _ _ _ ((P1.trans P2).trans P3) S3 rv
end
theorem eqv_ints : ∀ r q : List Int, PyData.eqvAll (D.pyAll (r.map .int)) (D.pyAll (q.map .int)) = decide (r = q)
  | [], [] => by simp [D.pyAll, PyData.eqvAll]
  | [], _ :: _ => by simp [D.pyAll, PyData.eqvAll]
  | _ :: _, [] => by simp [D.pyAll, PyData.eqvAll]
  | a :: r, b :: q => by
    show PyData.eqvAll ((D.int a).py :: D.pyAll (r.map .int)) ((D.int b).py :: D.pyAll (q.map .int)) = _
    rw [PyData.eqvAll, eqv_ints r q]
    by_cases h : a = b
    · by_cases g : r = q
      · simp [D.py, PyData.eqv, h, g]
      · simp [D.py, PyData.eqv, h, g]
    · simp [D.py, PyData.eqv, h]
theorem eqv_row (r q : List Int) : PyData.eqv (rowD r).py (rowD q).py = decide (r = q) := by
  show PyData.eqv (.tuple (D.pyAll (r.map .int))) (.tuple (D.pyAll (q.map .int))) = _
  rw [PyData.eqv]
  exact eqv_ints r q
theorem rows_any (k : List Int) : ∀ rows : List (List Int), ((D.pyAll (rows.map rowD)).any fun z => PyData.eqv z (rowD k).py) = decide (k ∈ rows)
  | [] => by simp [D.pyAll]
  | r :: rows => by
    show (PyData.eqv (rowD r).py (rowD k).py || (D.pyAll (rows.map rowD)).any fun z => PyData.eqv z (rowD k).py) = _
    rw [rows_any k rows, eqv_row]
    by_cases h : r = k
    · simp [h]
    · have h' : ¬ k = r := fun z => h z.symm
      simp [h, h']
theorem flat_row (k : List Int) (n : Nat) : D.flat (n + 1) (rowD k) = true := by
  show D.flatAll n (k.map .int) = true
  induction k with
  | nil => cases n <;> rfl
  | cons a k ih =>
    show (D.flat n (.int a) && D.flatAll n (k.map .int)) = true
    rw [ih]
    cases n <;> rfl
theorem flat_rows (rows : List (List Int)) (n : Nat) : D.flat (n + 2) (.lst (rows.map rowD)) = true := by
  show D.flatAll (n + 1) (rows.map rowD) = true
  induction rows with
  | nil => rfl
  | cons r rows ih =>
    show (D.flat (n + 1) (rowD r) && D.flatAll (n + 1) (rows.map rowD)) = true
    rw [ih, flat_row]
    rfl
end DL
end
section
set_option Elab.async false
set_option linter.all false
set_option maxRecDepth 100000
/-! == of two objects by their own __eq__, where it holds -/
namespace DL
open PySem PySem.Spec PyProof.Rows L2
/-- what is asked of two objects: data on which the own == answers True -/
def EqSays (K : PySem.W.Frag) (R : List D → D → Prop) : Addr → Addr → Hp → Prop := fun a b H => ∃ B d e, Same B H ∧ Rep K B (.ref a) d ∧ Rep K B (.ref b) e ∧ R [d, e] (.bl true)
abbrev rEqOwn (K : PySem.W.Frag) (C : Addr) (R : List D → D → Prop) : R2 := rEqG (DIns C (EqSays K R))
theorem opEqOwn {X : Cx} (K : PySem.W.Frag) {C f : Addr} {fd : FuncData} {ps : List Str} {n : Nat} {R : List D → D → Prop} (F : FnOk X.prog X.w X.K X.mg X.base CX0 n f fd ps (spP K 2 R)) (me : Meth X.K C "__eq__" f) (hb : Binds X.K fd ps []) (hr : Room n X.A) (hK : X.K = K := by rfl) :
    OpR X (compareOp .Eq) (rEqOwn K C R) := by
  subst hK
  refine op_eqG (rcG_ins (E := E0) (FnOk.imp F fun vs H Q E q => ?_) me.at_ me.fn hb pass0) hr
  obtain ⟨a, b, rfl, ⟨B, d, e, sub, r1, r2, hR⟩, fin⟩ := q
  refine ⟨B, [], [.dat d, .dat e], [], .bl true, [], ⟨[d, e], rfl, rfl, rfl, hR⟩, rfl, rfl, pack_slots (ds := [d, e]) sub (.cons r1 (.cons r2 .nil)), fun B' H' v P S rv => ?_⟩
  cases rv
  exact fin H' fun c o h => P.frame c o h (List.not_mem_nil)
section
variable {K : PySem.W.Frag} {ss : Sl} {mem m1 m2 : List Mc} {ta tb : TE}
/-- a heap that only grew -/
theorem Sit.grown {B H H' : Hp} {al : List Addr} {σ : L2.St} (S : Sit K B H al σ ss mem) (e : Ext H H') : Stp B H al B H' al ∧ Sit K B H' al σ ss mem := by
  have st : ∀ b, H b ≠ none → H' b ≠ none := fun b h => by
    obtain ⟨o, ho⟩ := Option.ne_none_iff_exists'.mp h
    rw [e b o ho]
    exact fun z => nomatch z
  refine ⟨⟨Same.refl B, fun b o h _ => e b o h, fun b h => .inl h, st, [], by rw [List.append_nil], fun _ h => by cases h⟩, fun b o h => e _ _ (S.sub b o h), S.len, S.slot, S.mlen, fun n a m h1 h2 => ?_, S.nd, fun a h => st a (S.there a h)⟩
  obtain ⟨o, ho⟩ := Option.ne_none_iff_exists'.mp (S.there a (List.mem_of_getElem? h1))
  exact McOk.frame ((e _ _ ho).trans ho.symm) (S.mem n a m h1 h2)
theorem dt_eqOwn {C : Addr} {gs hs : List (Str × D)} {R : List D → D → Prop} (ha : DT K ta ss mem (.dat (.obj C gs)) m1) (hb : DT K tb ss m1 (.dat (.obj C hs)) m2) (hR : R [.obj C gs, .obj C hs] (.bl true)) : DT K (tOp (rEqOwn K C R) ta tb) ss mem (.dat (.bl true)) m2 :=
  dt_op ha hb fun B H al σ v w Q S hv hw k => by
    have hv' := hv
    have hw' := hw
    cases hv with
    | @obj a _ dx fs _ ea _ =>
      cases hw with
      | @obj b _ dy gs _ eb _ =>
        refine ⟨⟨a, b, dx, dy, fs, gs, rfl, rfl, S.sub _ _ ea, S.sub _ _ eb, B, _, _, S.sub, hv', hw', hR⟩, fun H' e => ?_⟩
        obtain ⟨P2, S2⟩ := S.grown e
        exact k _ _ _ _ P2 S2 (.bl true)
end
theorem callDictPr {X : Cx} (K : PySem.W.Frag) (hc : X.calm = true) (hu : X.A.units + 2 < cLine) (h : X.K = K := by rfl) : CallR X (.type "dict") (rDictPrT K) := h ▸ call_dictPrT hc hu
theorem crMin {X : Cx} (K : PySem.W.Frag) (hc : X.calm = true := by rfl) (h : X.K = K := by rfl) : CallR X (.builtin "min") (rMin K) := h ▸ cr_min hc
/-! ### loops and comprehensions over a list, said by its items -/
theorem getD_in {α : Type} {l : List α} {i : Nat} (h : i < l.length) (z : α) : l.getD i z ∈ l := by
  rw [List.getD_eq_getElem?_getD, List.getElem?_eq_getElem h]
  exact List.getElem_mem h
theorem nthD_map {α : Type} (g : α → D) {l : List α} {i : Nat} (h : i < l.length) (z : α) : nthD (l.map g) i = g (l.getD i z) := by
  have e : (l.map g)[i]? = some (nthD (l.map g) i) := nthD_get (by rw [List.length_map]; exact h)
  rw [List.getElem?_map, List.getElem?_eq_getElem h] at e
  rw [List.getD_eq_getElem?_getD, List.getElem?_eq_getElem h]
  exact (Option.some.inj e).symm
theorem range_any {α : Type} (z : α) (q : α → Bool) (l : List α) : (List.range l.length).any (fun i => q (l.getD i z)) = l.any q := by
  conv => rhs; rw [← range_get z l]
  rw [List.any_map]
  rfl
section
variable {K : PySem.W.Frag} {ss ss1 ss2 f : Sl} {mem m1 m2 : List Mc} {ta tb te tx : TE} {r : Vl}
theorem di_map {α : Type} (g : α → D) (l : List α) (h : DT K te ss mem (.dat (.lst (l.map g))) m1) : DI K (iList K te) ss mem l.length (nthD (l.map g)) m1 := by
  have d := di_list h
  rw [List.length_map] at d
  exact d
/-- a for over a list that may answer in a turn -/
theorem ds_searchL {α : Type} {tb : TS} (g : α → D) (z : α) (l : List α) {k : Nat} (ks : List Nat) (f0 : wipeS ss ks = f) (h : DT K te f mem (.dat (.lst (l.map g))) m1) (q : α → Bool)
    (step : ∀ x ∈ l, (q x = true → DS K tb (f.set k (some (.dat (g x)))) m1 (.rt r m1)) ∧ (q x = false → ∃ s', DS K tb (f.set k (some (.dat (g x)))) m1 (.nx s' m1) ∧ wipeS s' ks = f)) :
    DS K (tFor (iList K te) (gName k) tb) ss mem (if l.any q = true then .rt r m1 else .nx f m1) := by
  rw [← range_any z q l]
  refine ds_search ks f f0 (di_map g l h) (fun i => q (l.getD i z)) fun i hi => ?_
  rw [nthD_map g hi z]
  exact step _ (getD_in hi z)
/-- [e for x in xs] -/
theorem dt_lcL {α : Type} (g : α → D) (z : α) (l : List α) {j : Nat} (h : DT K te ss mem (.dat (.lst (l.map g))) m1) (few : l.length ≤ 16777216) (v : α → D)
    (step : ∀ x ∈ l, DT K tx ((ss.set j none).set j (some (.dat (g x)))) m1 (.dat (v x)) m1) : DT K (tLc (iList K te) (gName j) tYes tx [j]) ss mem (.dat (.lst (l.map v))) m1 := by
  have e : l.map v = (List.range l.length).map fun i => v (l.getD i z) := by
    conv => lhs; rw [← range_get z l]
    rw [List.map_map]
    rfl
  rw [e]
  refine dt_lcMap (di_map g l h) _ few fun i hi => ⟨_, [j], dg_name, fun w hw => hw, ?_⟩
  rw [nthD_map g hi z]
  exact step _ (getD_in hi z)
/-- [e for x in xs], to be put together with another list -/
theorem dt_lcLT {α : Type} (g : α → D) (z : α) (l : List α) {j : Nat} (h : DT K te ss mem (.dat (.lst (l.map g))) m1) (few : l.length ≤ 16777216) (v : α → D)
    (step : ∀ x ∈ l, DT K tx ((ss.set j none).set j (some (.dat (g x)))) m1 (.dat (v x)) m1) : DT K (tLc (iList K te) (gName j) tYes tx [j]) ss mem (.tl (l.map v)) m1 := by
  have e : l.map v = (List.range l.length).map fun i => v (l.getD i z) := by
    conv => lhs; rw [← range_get z l]
    rw [List.map_map]
    rfl
  rw [e]
  refine dt_lcMapT (di_map g l h) _ few fun i hi => ⟨_, [j], dg_name, fun w hw => hw, ?_⟩
  rw [nthD_map g hi z]
  exact step _ (getD_in hi z)
/-- [x for x in xs if t] -/
theorem dt_lcFL {α : Type} (g : α → D) (z : α) (l : List α) {j : Nat} {tt : TT} (h : DT K te ss mem (.dat (.lst (l.map g))) m1) (few : l.length ≤ 16777216) (q : α → Bool) (v : α → D)
    (step : ∀ x ∈ l, DB K tt ((ss.set j none).set j (some (.dat (g x)))) m1 (q x) m1 ∧ (q x = true → DT K tx ((ss.set j none).set j (some (.dat (g x)))) m1 (.dat (v x)) m1)) : DT K (tLc (iList K te) (gName j) tt tx [j]) ss mem (.dat (.lst ((l.filter q).map v))) m1 := by
  rw [← range_filter z q v l]
  refine dt_lcIf (di_map g l h) (fun i => v (l.getD i z)) (fun i => q (l.getD i z)) few fun i hi => ?_
  rw [nthD_map g hi z]
  obtain ⟨a, b⟩ := step _ (getD_in hi z)
  exact ⟨_, [j], dg_name, fun w hw => hw, a, b⟩
theorem dt_allL {α : Type} (g : α → D) (z : α) (l : List α) {j : Nat} (h : DT K te ss mem (.dat (.lst (l.map g))) m1) (few : l.length ≤ 16777216) (q : α → Bool)
    (step : ∀ x ∈ l, DT K tx ((ss.set j none).set j (some (.dat (g x)))) m1 (.dat (.bl (q x))) m1) : DT K (tCB (rAll K) (tCons (tLc (iList K te) (gName j) tYes tx [j]) tNil)) ss mem (.dat (.bl (l.all q))) m1 := by
  have e : l.all q = (l.map q).all id := by rw [List.all_map]; rfl
  rw [e]
  refine dt_all ?_
  have a := dt_lcL (tx := tx) g z l h few (fun x => .bl (q x)) step
  rw [show (l.map fun x => D.bl (q x)) = (l.map q).map D.bl by rw [List.map_map]; rfl] at a
  exact a
theorem dt_anyL {α : Type} (g : α → D) (z : α) (l : List α) {j : Nat} (h : DT K te ss mem (.dat (.lst (l.map g))) m1) (few : l.length ≤ 16777216) (q : α → Bool)
    (step : ∀ x ∈ l, DT K tx ((ss.set j none).set j (some (.dat (g x)))) m1 (.dat (.bl (q x))) m1) : DT K (tCB (rAny K) (tCons (tLc (iList K te) (gName j) tYes tx [j]) tNil)) ss mem (.dat (.bl (l.any q))) m1 := by
  have e : l.any q = (l.map q).any id := by rw [List.any_map]; rfl
  rw [e]
  refine dt_any ?_
  have a := dt_lcL (tx := tx) g z l h few (fun x => .bl (q x)) step
  rw [show (l.map fun x => D.bl (q x)) = (l.map q).map D.bl by rw [List.map_map]; rfl] at a
  exact a
/-- a for over a dict's keys that may answer in a turn -/
theorem ds_searchKeys {i k : Nat} {tb : TS} {m : List (List Int × D)} {fl : Sl} (ks : List Nat) (hi : ss[i]? = some (some (.dat (.dic m)))) (nl : NoLk ss) (f0 : wipeS (ss.set i (some (.lk m))) ks = fl) (hk : fl[i]? = some (some (.lk m))) (nl1 : NoLk (fl.set i (some (.dat (.dic m))))) (hr : ∀ m', r ≠ .lk m') (q : List Int × D → Bool)
    (step : ∀ p ∈ m, (q p = true → DS K tb (fl.set k (some (.dat (rowD p.1)))) mem (.rt r mem)) ∧ (q p = false → ∃ s', DS K tb (fl.set k (some (.dat (rowD p.1)))) mem (.nx s' mem) ∧ wipeS s' ks = fl)) :
    DS K (tLkS (tFor (iKeys (tVar i)) (gName k) tb)) ss mem (if m.any q = true then .rt r mem else .nx (fl.set i (some (.dat (.dic m)))) mem) := by
  let z : List Int × D := ([], .non)
  have s := ds_search (K := K) (tb := tb) (k := k) (ss := ss.set i (some (.lk m))) (r := r) ks fl f0 (di_keys hk) (fun i => q (m.getD i z)) fun i hi => step _ (getD_in hi z)
  rw [range_any z q m] at s
  by_cases h : m.any q = true
  · rw [if_pos h] at s ⊢
    exact ds_lkR i hi nl hr s
  · rw [if_neg h] at s ⊢
    exact ds_lkN i hi nl hk nl1 s
/-- all(.. for k in d), d a dict -/
theorem dt_allKeys {i j : Nat} {m : List (List Int × D)} (hi : ss[i]? = some (some (.dat (.dic m)))) (nl : NoLk ss) (few : m.length ≤ 16777216) (q : List Int × D → Bool)
    (step : ∀ p ∈ m, DT K tx (((ss.set i (some (.lk m))).set j none).set j (some (.dat (rowD p.1)))) mem (.dat (.bl (q p))) mem) : DT K (tCB (rAll K) (tCons (tLkE (tLc (iKeys (tVar i)) (gName j) tYes tx [j])) tNil)) ss mem (.dat (.bl (m.all q))) mem := by
  have e : m.all q = (m.map q).all id := by rw [List.all_map]; rfl
  rw [e]
  refine dt_all ?_
  have a := dt_lcKeys (K := K) (tt := tYes) (tx := tx) (j := j) hi nl few (fun _ => true) (fun p => .bl (q p)) fun p hp => ⟨db_yes, fun _ => step p hp⟩
  rw [List.filter_eq_self.mpr fun _ _ => rfl, show (m.map fun p => D.bl (q p)) = (m.map q).map D.bl by rw [List.map_map]; rfl] at a
  exact a
theorem dt_minL {ns : List Int} {m : Int} (h : DT K te ss mem (.dat (.lst (ns.map .int))) m1) (inn : m ∈ ns) (least : ∀ y ∈ ns, m ≤ y) : DT K (tCB (rMin K) (tCons te tNil)) ss mem (.dat (.int m)) m1 := fun B H al σ Q S k =>
  h B H al σ _ S fun B1 H1 al1 v P1 S1 r1 => by
    cases r1 with
    | @lst a xs _ s r =>
      cases r.ints
      refine ⟨a, ns, rfl, S1.seqL s, List.length_pos_of_mem inn, fun m' h1 h2 => ?_⟩
      have e : m = m' := Int.le_antisymm (least m' h1) (h2 m inn)
      rw [← e]
      exact k _ _ _ _ P1 S1 (.int _)
end
end DL
end
section
set_option Elab.async false
set_option linter.all false
set_option maxRecDepth 100000
/-! list(x), x whatever can be walked: it begins empty and is extended -/
namespace DL
open PySem PySem.Spec PyProof.Rows L2
section
variable {prog : Program} {w : World} {A : Around} {E : Value → Shared → Prop} {s : Shared}
abbrev emptyL (c : Nat) : Obj := { cls := .type "list", dict := none, data := .seq #[] c, slots := #[] }
/-- how the built-in ends: with the new list -/
abbrev fin1 (Q : Value → Shared → Prop) (E : Value → Shared → Prop) (l : Addr) : Result → Shared → Prop := wants (fun r t => r = .none ∧ Q (.ref l) t) E
theorem list_by {x : Value} {Q : Value → Shared → Prop}
    (ext : ∀ h c, h.get? s.heap.objs.size = some (emptyL c) → (∀ b o, s.heap.get? b = some o → h.get? b = some o) →
      wpAny (model prog w) A.in1.in1 (Builtin.List.listExtendWith (.ref s.heap.objs.size) x .none)
        (fun fin t => match fin with | .done f => fin1 Q E s.heap.objs.size (.ok f) t | .again c' => c'.quiet = true ∧ codeAny (model prog w) A.in1 c' (fin1 Q E s.heap.objs.size) t)
        (fun e t => fin1 Q E s.heap.objs.size (.error e) t) { s with heap := h }) : wpAny (model prog w) A (call (.type "list") [x]) Q E s := by
  refine callType_codes (Q₁ := fun o t => o = .ref s.heap.objs.size ∧ t = { s with heap := s.heap.push (emptyL 0) }) F.called_list (F.typeCall_list_1 _) F.entry_list_init (code_list_new _ ⟨rfl, rfl⟩) ?_
  rintro _ _ ⟨rfl, rfl⟩
  have new : (s.heap.push (emptyL 0)).get? s.heap.objs.size = some (emptyL 0) := Heap.get?_push_size _ rfl
  have old : ∀ b o, s.heap.get? b = some o → (s.heap.push (emptyL 0)).get? b = some o := fun _ _ => Heap.get?_push_of_some _
  generalize s.heap.push (emptyL 0) = h0 at new old ⊢
  have still : ∀ b o, s.heap.get? b = some o → (h0.update s.heap.objs.size (Obj.mapSeq fun _ => #[])).get? b = some o := fun b o e => (Heap.get?_update_other _ _ (Nat.ne_of_gt (Heap.lt_size e))).trans (old b o e)
  refine ⟨⟨emptyL 0, new, rfl⟩, F.args_list_init_2 _ _, ?_⟩
  change wpAny _ _ (Builtin.List.listItems (.ref s.heap.objs.size) >>= fun was => Builtin.List.listUpdate (.ref s.heap.objs.size) (fun _ => #[]) >>= fun _ => letGo was.toList.reverse >>= fun _ => Builtin.List.listExtendWith (.ref s.heap.objs.size) x .none) _ _ _
  unfold Builtin.List.listItems
  refine wpAny_bind (wpAny_bind (wpAny_seqItems new rfl (wpAny_pure ?_)))
  exact wpAny_bind (wpAny_updateSeq new rfl (wpAny_bind (wpAny_letGo (ext _ _ (Heap.get?_update_self _ new rfl) still))))
end
section
variable {X : Cx}
/-- list(d.items()): a new list of new pairs -/
def rListIt : List V → Hp → VK → Prop := fun xs H Q => ∃ (p a : Addr) (kvs : List (List L2.Key × V)), xs = [.ref p] ∧ H p = some (L2.DX.itemsO p a) ∧ Rd H a (.dT kvs) ∧
  ∀ (H' : Hp) (l : Addr) (ts : List Addr), (∀ b o, H b = some o → H' b = some o) → H l = none → (∀ t ∈ ts, H t = none) → l ∉ ts → ts.Nodup → ts.length = kvs.length → H' l = some (.lst (ts.map V.ref)) →
    (∀ (j : Nat) t, ts[j]? = some t → ∃ k v b, kvs[j]? = some (k, v) ∧ H' t = some (.tup [.ref b, v]) ∧ H b = some (.tup (k.map kV))) → Q (.ref l) H'
theorem call_listIt (hc : X.calm = true) : CallR X (.type "list") rListIt := by
  rintro pins s σ H _ us Q I rel ⟨p, a, kvs, rfl, hp, ha, fin⟩
  obtain ⟨_, rfl, ru⟩ := rel.one
  cases ru
  have view : s.heap.IsItemsView p a := (show ObjOk X.prog X.w H s.heap p (L2.DX.itemsO p a) from I.hok p _ hp).1
  obtain ⟨few, -, xs, kt, o, es, ep, at_, ex, dat, ents, -, -⟩ := dt_rd I.hok ha
  have lx : xs.length = kvs.length := (Paired.length kt).symm
  have le : es.size = xs.length := size_of_entries ents
  refine list_by fun h c new kept => ?_
  have pS : s.heap.objs.size ≠ p := fun z => by
    obtain ⟨o, ho, -⟩ := view
    exact Nat.lt_irrefl _ (z ▸ Heap.lt_size ho)
  have aS : a ≠ s.heap.objs.size := fun z => Nat.lt_irrefl _ (z ▸ Heap.lt_size at_)
  refine DT.extI (A := X.A.in1) (s := { s with heap := h }) (es := es) (ep := ep) (I.ok.hd hc) (let ⟨o, ho, hx⟩ := view; ⟨o, kept _ _ ho, hx⟩) ⟨o, kept _ _ at_, ex, dat⟩ s.heap.objs.size pS aS .none c new (fun h' tk acc c' as keep now la made ea => ?_) (by omega)
  refine ⟨rfl, ?_⟩
  have all : ∀ b u, s.heap.get? b = some u → h'.get? b = some u := fun b u e => keep b u (Nat.ne_of_lt (Heap.lt_size e)) (kept b u e)
  have hl0 : s.heap.objs.size < h.objs.size := Heap.lt_size new
  have low : ∀ t ∈ as, s.heap.objs.size < t := fun t ht => Nat.lt_trans hl0 (made.above t ht)
  have nd : as.Nodup := List.Pairwise.imp (fun h => Nat.ne_of_lt h) made.rise
  have lak : as.length = kvs.length := by omega
  have nS : H s.heap.objs.size = none := I.hok.fresh (Nat.le_refl _)
  have nT : ∀ t ∈ as, H t = none := fun t ht => I.hok.fresh (Nat.le_of_lt (low t ht))
  have refs : ∀ l : List Addr, Vals (l.map V.ref) (l.map Value.ref) := fun l => by
    induction l with
    | nil => exact .nil
    | cons x l ih => exact .cons rfl ih
  have I1 : Inv X pins σ (upd H s.heap.objs.size (.lst (as.map V.ref))) { s with heap := h', toks := tk } :=
    I.laid (t' := tk) all (Nat.le_refl _) ⟨by rw [List.length_map]; omega, acc.toList, c', by rw [ea]; exact refs as, by rw [Array.toArray_toList]; exact now⟩
  -- the pairs that were made
  have pr : ∀ (j : Nat) (t : Addr), as[j]? = some t → ∃ k v b u, kvs[j]? = some (k, v) ∧ H b = some (.tup (k.map kV)) ∧ RelV v u ∧ h'.get? t = some { cls := .type "tuple", data := .seq #[Value.ref b, u] } := fun j t ht => by
    obtain ⟨en, he, hg⟩ := made.pairs j t ht
    rw [entry_at ents j] at he
    obtain ⟨x, hx, rfl⟩ := Option.map_eq_some_iff.mp he
    obtain ⟨⟨k, v⟩, hk, r1, r2, r3⟩ := L2.DX.pget kt hx
    exact ⟨k, v, x.2.1, x.2.2, hk, r2, r3, hg⟩
  obtain ⟨H2, I2, g, qt⟩ := L2.DX.takeT (P := fun t vs => ∃ (j : Nat) (k : List L2.Key) (v : V) (b : Addr), as[j]? = some t ∧ kvs[j]? = some (k, v) ∧ vs = [.ref b, v] ∧ H b = some (.tup (k.map kV))) I as _ I1 nd fun t ht => by
    obtain ⟨j, hj⟩ := List.mem_iff_getElem?.mp ht
    obtain ⟨k, v, b, u, hk, hb, rv, hg⟩ := pr j t hj
    refine ⟨Nat.le_of_lt (low t ht), by rw [upd_ne (Nat.ne_of_gt (low t ht))]; exact nT t ht, [.ref b, v], ⟨j, k, v, b, hj, hk, rfl, hb⟩, fun H3 => ⟨by rw [sizeLine_eq]; show 2 ≤ 16777216; omega, [Value.ref b, u], .cons rfl (.cons rv .nil), ⟨_, hg, rfl, 0, rfl⟩⟩⟩
  have gr : ∀ b u, H b = some u → H2 b = some u := fun b u e => g b u (by rw [upd_ne (ne_of_none e nS)]; exact e)
  refine ⟨.ref s.heap.objs.size, H2, I2, rfl, fin H2 _ as gr nS nT (fun z => Nat.lt_irrefl _ (low _ z)) nd lak (g _ _ upd_same) fun j t ht => ?_⟩
  obtain ⟨vs, ⟨i, k, v, b, hi, hk, ev, hb⟩, hH⟩ := qt t (List.mem_of_getElem? ht)
  have eij : i = j := (List.getElem?_inj (List.getElem?_eq_some_iff.mp hi).1 nd).mp (hi.trans ht.symm)
  subst eij
  rw [ev] at hH
  exact ⟨k, v, b, hk, hH, hb⟩
/-- d.items(), d read alone -/
def tItemsR (te : TE) : TE := fun σ H Q => te σ H fun x H1 => ∃ (a : Addr) (kvs : List (List L2.Key × V)), x = .ref a ∧ Rd H1 a (.dT kvs) ∧ ∀ p, H1 p = none → Q (.ref p) (upd H1 p (L2.DX.itemsO p a))
theorem pe_itemsR {e : Expr} {te : TE} {apos cpos : Pos} (he : PE X e te) (hbase : attributeBase e "items" X.env (eval e X.env) = eval e X.env := by rfl) (hline : (apos.endLine == cpos.line) = true := by rfl) :
    PE X (.Call (.Attribute e "items" apos) [] [] cpos) (tItemsR te) := ⟨fun pins s σ H Q I q => wpAny_Call_method0_late hbase hline (thn (he.run pins s σ H _ I q) fun v s1 got => by
  obtain ⟨x, H1, I1, rx, a, kvs, rfl, rd, fin⟩ := got
  cases rx
  obtain ⟨-, low, -, -, o, es, ep, at_, ex, dat, -, -, -⟩ := dt_rd I1.hok rd
  have new := I1.hok.fresh (Nat.le_refl _)
  refine ⟨"dict", "dict.items", F.plainAttrs_dict, F.slot_dict_items, F.type_dict_items, ⟨o, at_, ex.1⟩, fun b z => ?_, Calls.callWith_builtin rfl (PySem.evalArgs_none (DT.callItems (es := es) (ep := ep) low ⟨o, at_, ex, dat⟩ ⟨.ref s1.heap.objs.size, _, I1.laid (t' := s1.toks) (fun b u e => Heap.get?_push_of_some _ e) (Nat.le_refl _) (L2.DX.itemsO_ok (Heap.get?_push_size _ rfl)), rfl, fin _ new⟩))⟩
  cases z
  exact ⟨o, at_, ex.2.1⟩)⟩
end
end DL
end
section
set_option Elab.async false
set_option linter.all false
set_option maxRecDepth 100000
/-! list(d.items()), said of data -/
namespace DL
open PySem PySem.Spec PyProof.Rows L2
section
variable {K : PySem.W.Frag} {ss : Sl} {mem m1 m2 : List Mc} {td te : TE} {x : Vl} {m : List (List Int × D)}
/-- objects that are laid all at once, as data -/
theorem Sit.layAll {B H H' : Hp} {al : List Addr} {σ : L2.St} (S : Sit K B H al σ ss mem) (gr : ∀ b o, H b = some o → H' b = some o) : ∀ (ls : List (Addr × HO)), (∀ p ∈ ls, H p.1 = none ∧ H' p.1 = some p.2) →
    ∃ B', Stp B H al B' H' al ∧ Sit K B' H' al σ ss mem ∧ ∀ p ∈ ls, B' p.1 = some p.2
  | [], _ => by
    have st : ∀ b, H b ≠ none → H' b ≠ none := fun b h => by
      obtain ⟨o, ho⟩ := Option.ne_none_iff_exists'.mp h
      rw [gr b o ho]
      exact fun z => nomatch z
    obtain ⟨P, S'⟩ := S.grown (H' := H') gr
    exact ⟨B, P, S', fun p h => by cases h⟩
  | p :: ls, h => by
    obtain ⟨B1, P1, S1, at1⟩ := Sit.layAll S gr ls fun q hq => h q (List.mem_cons_of_mem _ hq)
    obtain ⟨hn, hp⟩ := h p List.mem_cons_self
    rcases Option.eq_none_or_eq_some (B1 p.1) with nb | ⟨o, eb⟩
    · have sB : Same B1 (upd B1 p.1 p.2) := fun c u e => by rw [upd_ne (ne_of_none e nb)]; exact e
      have nal : p.1 ∉ al := fun z => S.there _ z hn
      refine ⟨upd B1 p.1 p.2, ⟨P1.same.trans sB, P1.frame, fun c z => ?_, P1.stay, P1.ext⟩, ⟨fun c u e => ?_, S1.len, fun i r e => ?_, S1.mlen, fun n c q e1 e2 => ?_, S1.nd, S1.there⟩, fun q hq => ?_⟩
      · by_cases e : c = p.1
        · exact .inr (.inl (e ▸ hn))
        · rw [upd_ne e] at z
          exact P1.fresh c z
      · by_cases z : c = p.1
        · subst z
          rw [upd_same] at e
          exact hp.trans e
        · rw [upd_ne z] at e
          exact S1.sub c u e
      · obtain ⟨v, h1, h2⟩ := S1.slot i r e
        refine ⟨v, h1, ?_⟩
        cases r with
        | dat d => exact Rep.mono sB d h2
        | own n => exact h2
        | tl ds => exact h2.imp fun a z => z.imp fun xs y => ⟨y.1, sB _ _ y.2.1, RepAll.mono sB ds y.2.2⟩
        | lk ds =>
          obtain ⟨a, o', kvs, z1, z2, z3⟩ := h2
          exact ⟨a, o', kvs, z1, sB _ _ z2, RepKv.mono sB ds z3⟩
      · exact (S1.mem n c q e1 e2).grow sB (upd_ne fun z => nal (z ▸ List.mem_of_getElem? e1))
      · by_cases e : q.1 = p.1
        · rcases List.mem_cons.mp hq with z | z
          · rw [z, upd_same]
          · have := at1 q z
            rw [e, nb] at this
            cases this
        · rw [upd_ne e]
          rcases List.mem_cons.mp hq with z | z
          · exact absurd (by rw [z]) e
          · exact at1 q z
    · refine ⟨B1, P1, S1, fun q hq => ?_⟩
      rcases List.mem_cons.mp hq with z | z
      · rw [z, eb]
        have := S1.sub _ _ eb
        rw [hp] at this
        exact this.symm
      · exact at1 q z
theorem dt_listIt (hd : DT K td ss mem x m1) (hm : IsDic m1 x m) : DT K (tCB rListIt (tCons (tItemsR td) tNil)) ss mem (.dat (.rls (m.map pairD))) m1 := fun B H al σ Q S q =>
  hd B H al σ _ S fun B1 H1 al1 v P1 S1 r1 => by
    obtain ⟨a, kvs, rfl, rd, rk⟩ := dic_at S1 r1 hm
    refine ⟨a, kvs, rfl, rd, fun p np => ?_⟩
    have g0 : ∀ b o, H1 b = some o → upd H1 p (L2.DX.itemsO p a) b = some o := fun b o e => by rw [upd_ne (ne_of_none e np)]; exact e
    obtain ⟨P2, S2⟩ := S1.grown (H' := upd H1 p (L2.DX.itemsO p a)) g0
    refine ⟨p, a, kvs, rfl, upd_same, ?_, fun H' l ts gr nl nts lts nd len el et => ?_⟩
    · rcases rd with rd | ⟨o, rd⟩
      · exact .inl (g0 _ _ rd)
      · exact .inr ⟨o, g0 _ _ rd⟩
    have pick : ∀ t ∈ ts, ∃ o, H' t = some o := fun t ht => by
      obtain ⟨j, hj⟩ := List.mem_iff_getElem?.mp ht
      obtain ⟨k, v, b, -, h, -⟩ := et j t hj
      exact ⟨_, h⟩
    obtain ⟨B3, P3, S3, at3⟩ := S2.layAll gr ((l, .lst (ts.map V.ref)) :: ts.map fun t => (t, (H' t).getD (.lst []))) fun z hz => by
      rcases List.mem_cons.mp hz with e | e
      · rw [e]
        exact ⟨nl, el⟩
      · obtain ⟨t, ht, rfl⟩ := List.mem_map.mp e
        obtain ⟨o, ho⟩ := pick t ht
        exact ⟨nts t ht, by show H' t = some ((H' t).getD _); rw [ho]; rfl⟩
    -- the key tuples
    have keys : ∀ (m : List (List Int × D)) (kvs : List (List L2.Key × V)) (ts : List Addr) (B : Hp), Same B H' → RepKv K B kvs m → ts.length = kvs.length → (∀ (j : Nat) t, ts[j]? = some t → ∃ k v b, kvs[j]? = some (k, v) ∧ B t = some (.tup [.ref b, v]) ∧ H' b = some (.tup (k.map kV))) →
        ∃ bs : List Addr, IsKeys H' kvs bs ∧ bs.length = ts.length ∧ ∀ (j : Nat) t, ts[j]? = some t → ∃ k v b, kvs[j]? = some (k, v) ∧ B t = some (.tup [.ref b, v]) ∧ bs[j]? = some b := fun m => by
      induction m with
      | nil =>
        intro kvs ts B _ rk len _
        cases rk
        have : ts = [] := List.length_eq_zero_iff.mp len
        subst this
        exact ⟨[], .nil, rfl, fun j t e => by simp at e⟩
      | cons p m ih =>
        intro kvs ts B sb rk len h
        cases rk with
        | cons r1 r2 =>
          cases ts with
          | nil => simp at len
          | cons t ts =>
            obtain ⟨bs, k1, k2, k3⟩ := ih _ ts B sb r2 (by simpa using len) fun j t e => h (j + 1) t (by simpa using e)
            obtain ⟨k, v, b, e1, e2, e3⟩ := h 0 t rfl
            cases Option.some.inj e1
            refine ⟨b :: bs, .cons e3 k1, by simp [k2], fun j t' e => ?_⟩
            cases j with
            | zero => exact ⟨_, _, b, rfl, Option.some.inj e ▸ e2, rfl⟩
            | succ j =>
              obtain ⟨k', v', b', a1, a2, a3⟩ := k3 j t' (by simpa using e)
              exact ⟨k', v', b', by simpa using a1, a2, by simpa using a3⟩
    have atT : ∀ t ∈ ts, B3 t = H' t := fun t ht => by
      have z := at3 (t, (H' t).getD (.lst [])) (List.mem_cons_of_mem _ (List.mem_map_of_mem ht))
      obtain ⟨o, ho⟩ := pick t ht
      rw [ho] at z ⊢
      exact z
    obtain ⟨bs, ks, lb, bt⟩ := keys m kvs ts B3 S3.sub (RepKv.mono (P2.trans P3).same m rk) len fun j t e => by
      obtain ⟨k, v, b, h1, h2, h3⟩ := et j t e
      exact ⟨k, v, b, h1, (atT t (List.mem_of_getElem? e)).trans h2, gr _ _ h3⟩
    obtain ⟨B4, P4, S4, ra⟩ := S3.takeKeys (RepKv.mono (P2.trans P3).same m rk) ks
    have rk4 := RepKv.mono ((P2.trans P3).trans P4).same m rk
    -- the pairs
    have pairs : ∀ (m : List (List Int × D)) (kvs : List (List L2.Key × V)) (ts bs : List Addr), RepKv K B4 kvs m → RepAll K B4 (bs.map V.ref) (m.map fun p => rowD p.1) → ts.length = kvs.length → bs.length = ts.length →
        (∀ (j : Nat) t, ts[j]? = some t → ∃ k v b, kvs[j]? = some (k, v) ∧ B4 t = some (.tup [.ref b, v]) ∧ bs[j]? = some b) → RepAll K B4 (ts.map V.ref) (m.map pairD) := fun m => by
      induction m with
      | nil =>
        intro kvs ts bs rk _ l1 _ _
        cases rk
        have : ts = [] := List.length_eq_zero_iff.mp l1
        subst this
        exact .nil
      | cons p m ih =>
        intro kvs ts bs rk ra l1 l2 h
        cases rk with
        | cons r1 r2 =>
          cases ts with
          | nil => simp at l1
          | cons t ts =>
            cases bs with
            | nil => simp at l2
            | cons b bs =>
              cases ra with
              | cons a1 a2 =>
                obtain ⟨k, v, b', e1, e2, e3⟩ := h 0 t rfl
                cases Option.some.inj e1
                cases Option.some.inj e3
                exact .cons (.tup e2 (.cons a1 (.cons r1 .nil))) (ih _ ts bs r2 a2 (by simpa using l1) (by simpa using l2) fun j t' e => by
                  obtain ⟨k', v', b'', x1, x2, x3⟩ := h (j + 1) t' (by simpa using e)
                  exact ⟨k', v', b'', by simpa using x1, x2, by simpa using x3⟩)
    have pr := pairs m kvs ts bs rk4 ra len lb fun j t e => by
      obtain ⟨k, v, b, x1, x2, x3⟩ := bt j t e
      exact ⟨k, v, b, x1, P4.same _ _ x2, x3⟩
    have el4 : B4 l = some (.lst (ts.map V.ref)) := P4.same _ _ (at3 _ List.mem_cons_self)
    exact q _ _ _ _ (((P1.trans P2).trans P3).trans P4) S4 (.rls el4 pr)
end
end DL
end
section
set_option Elab.async false
set_option linter.all false
set_option maxRecDepth 100000
/-! list(o), o's own `__iter__` gives a list's iterator -/
namespace DL
open PySem PySem.Spec PyProof.Rows L2
theorem upd_comm {H : Hp} {a b : Addr} {x y : HO} (h : a ≠ b) : upd (upd H a x) b y = upd (upd H b y) a x := by
  funext c
  by_cases e1 : c = a
  · subst e1
    rw [upd_ne h, upd_same, upd_same]
  · by_cases e2 : c = b
    · subst e2
      rw [upd_same, upd_ne e1, upd_same]
    · rw [upd_ne e2, upd_ne e1, upd_ne e1, upd_ne e2]
theorem sqL_upd {K : PySem.W.Frag} {H : Hp} {a b : Addr} {o : HO} {xs : List V} (h : SqL K H a xs) (n : a ≠ b) : SqL K (upd H b o) a xs := by
  unfold SqL Rd at h ⊢
  simp only [upd_ne n]
  exact h
/-- what such an `__iter__` promises: a new iterator over the list in the field -/
def spItL (K : PySem.W.Frag) (C : Addr) (f : Str) : Sp := fun vs H Q _ => ∃ a dx fs l zs, vs = [.ref a] ∧ H a = some (.ins C dx fs) ∧ fs.lookup f = some (.ref l) ∧ SqL K H l zs ∧ ∀ it, H it = none → Q (.ref it) (upd H it (ItO l it 0))
/-- what is asked of the class: its `__iter__`, and that nothing tells a length -/
structure ItL (K : PySem.W.Frag) (C fi : Addr) : Prop where
  walk : Meth K C "__iter__" fi
  bare : NoAttr K C "__len__" ∧ NoAttr K C "__length_hint__"
/-- list(o) -/
def rListO (K : PySem.W.Frag) (C : Addr) (f : Str) : List V → Hp → VK → Prop := fun xs H Q => ∃ a dx fs l zs, xs = [.ref a] ∧ H a = some (.ins C dx fs) ∧ fs.lookup f = some (.ref l) ∧ SqL K H l zs ∧ (∃ u, H l = some u) ∧ ∀ q, H q = none → Q (.ref q) (upd H q (.lst zs))
section
variable {X : Cx} {C fi : Addr} {f : Str} {fdI : FuncData} {psI : List Str} {n : Nat}
/-- a turn of the loop that fills a list -/
theorem loop_body {A1 : Around} {q it : Addr} {Rs : Result → Shared → Prop} {s : Shared} (h : wpAny (model X.prog X.w) A1.in1 (pyNext (.ref it)) (fun r t => wpAny (model X.prog X.w) A1.in1 (match r with
      | none => ret .none
      | some u => updateSeq q (·.push u) >>= fun _ => again (.builtin "list.extend.loop" ⟨[.ref q, .ref it, .none], []⟩)) (fun fin t' => match fin with | .done f => Rs (.ok f) t' | .again c' => c'.quiet = true ∧ codeAny (model X.prog X.w) A1 c' Rs t') (fun e t' => Rs (.error e) t') t) (fun e t => Rs (.error e) t) s) :
    codeAny (model X.prog X.w) A1 (.builtin "list.extend.loop" ⟨[.ref q, .ref it, .none], []⟩) Rs s := by
  refine codeAny_builtin PySem.F.entry_extend_loop ?_
  rw [Around.under_plainId (A := A1) PySem.F.plain_extend_loop]
  exact wpAny_bind (wpAny_mono h (fun r t z => by cases r <;> exact z) fun _ _ z => z)
/-- an empty list's room is tried: it stays empty -/
theorem touch_ok {pins : List (Addr × Obj)} {σ : L2.St} {A1 : Around} {Q : Unit → Shared → Prop} {E : Value → Shared → Prop} {q : Addr} {H : Hp} {s : Shared} (I : Inv X pins σ H s) (hq : H q = some (.lst [])) (h : ∀ t, Inv X pins σ H t → Q () t) :
    wpAny (model X.prog X.w) A1 (Builtin.List.listTouch (.ref q)) Q E s := by
  obtain ⟨-, vs, c, rel, -, at_⟩ := I.lstM hq
  cases rel
  have one := I.lset (f := fun a => a.push Value.none) (its' := [Value.none]) (ys := [V.non]) (t' := s.toks) hq at_ rfl (.cons rfl .nil) (show 1 ≤ sizeLine by rw [sizeLine_eq]; decide)
  obtain ⟨-, us, c', rel', -, at'⟩ := one.lstM upd_same
  obtain ⟨u, rfl, -⟩ := rel'.one
  have two := one.lset (f := fun a => a.pop) (its := [u]) (its' := []) (ys := []) (t' := s.toks) upd_same at' rfl .nil (Nat.zero_le _)
  have same : upd H q (.lst []) = H := funext fun b => by
    rcases Decidable.em (b = q) with e | e
    · rw [e, upd_same, hq]
    · exact upd_ne e
  rw [upd_upd, same] at two
  change wpAny _ _ (Bind.bind (updateSeq q fun a => a.push .none) fun _ => updateSeq q fun a => a.pop) _ _ _
  exact wpAny_bind (wpAny_updateSeq at_ rfl (wpAny_updateSeq at' rfl (h _ two) (show 1 ≤ sizeLine by rw [sizeLine_eq]; decide) (show 0 ≤ sizeLine + 1 from Nat.zero_le _)))
theorem loop_listO {pins : List (Addr × Obj)} {σ : L2.St} {A1 : Around} {Rs : Result → Shared → Prop} {q it l : Addr} {zs : List V} {H : Hp} (hc : A1.in1.handled = none) (hql : l ≠ q) (hit : l ≠ it) (hqi : q ≠ it) (nit : H it = none)
    (hH : SqL X.K H l zs) (hz : zs.length ≤ sizeLine) (hdone : ∀ s, Inv X pins σ (upd H q (.lst zs)) s → Rs (.ok (.ret .none)) s) :
    ∀ (k i : Nat) (s : Shared), zs.length - i = k → i ≤ zs.length → Inv X pins σ (upd (upd H q (.lst (zs.take i))) it (ItO l it i)) s → codeAny (model X.prog X.w) A1 (.builtin "list.extend.loop" ⟨[.ref q, .ref it, .none], []⟩) Rs s := by
  intro k
  induction k with
  | zero =>
    intro i s hk hi I
    have ei : i = zs.length := by omega
    subst ei
    rw [List.take_length] at I
    refine loop_body ?_
    obtain ⟨its, rv, pl, -⟩ := I.list (sqL_upd (sqL_upd hH hql) hit)
    have atI : upd (upd H q (.lst zs)) it (ItO l it zs.length) it = some (ItO l it zs.length) := upd_same
    have mu : Mut (upd (upd H q (.lst zs)) it (ItO l it zs.length) it) := by rw [atI]; exact True.intro
    refine DSub.py_end hc (itO_get I atI) pl.isList (by rw [List.getElem?_toArray]; exact rv.none_of (List.getElem?_eq_none (Nat.le_refl _))) fun h' e1 eb => ?_
    have I2 : Inv X pins σ (upd (upd H q (.lst zs)) it (ItE it zs.length)) { s with heap := h' } := by
      have J := I.write (x := it) (e := it) (t' := s.toks) mu (.inl rfl) (fun b o nb z => eb b o nb z) ⟨_, e1⟩ (itE_ok e1)
      rw [upd_upd] at J
      exact J
    have I5 := ItX.inv_drop (a := it) (φ := fun h => h.get? it = some (GNX.itEnd zs.length)) I2 upd_same
    rw [ItX.dropH_upd (by rw [upd_ne (Ne.symm hqi)]; exact nit)] at I5
    exact wpAny_pure (hdone _ I5)
  | succ k ih =>
    intro i s hk hi I
    have lt : i < zs.length := by omega
    refine loop_body ?_
    obtain ⟨its, rv, pl, -⟩ := I.list (sqL_upd (sqL_upd hH hql) hit)
    have atI : upd (upd H q (.lst (zs.take i))) it (ItO l it i) it = some (ItO l it i) := upd_same
    have mu : Mut (upd (upd H q (.lst (zs.take i))) it (ItO l it i) it) := by rw [atI]; exact True.intro
    obtain ⟨w', hw, rw'⟩ := rv.get (List.getElem?_eq_getElem lt)
    refine DSub.py_item (itO_get I atI) pl.isList (by rw [List.getElem?_toArray]; exact hw) fun h' e1 sb => ?_
    have I2 : Inv X pins σ (upd (upd H q (.lst (zs.take i))) it (ItO l it (i + 1))) { s with heap := h' } := by
      have J := I.write (x := it) (e := it) (t' := s.toks) mu (.inl rfl) (fun b o nb z => (sb.2 b nb).trans z) ⟨_, e1⟩ (itO_ok e1)
      rw [upd_upd] at J
      exact J
    have atq : upd (upd H q (.lst (zs.take i))) it (ItO l it (i + 1)) q = some (.lst (zs.take i)) := by rw [upd_ne hqi, upd_same]
    obtain ⟨z, its2, kk, r2, hl, e⟩ := I2.lstM atq
    have len : (zs.take i).length = i := by rw [List.length_take]; omega
    have len2 : its2.length = i := by rw [← r2.length, len]
    show wpAny _ A1.in1 (updateSeq q (·.push w') >>= _) _ _ _
    refine wpAny_bind (wpAny_updateSeq e rfl (wpAny_pure ⟨plainId_quiet PySem.F.plain_extend_loop _, ?_⟩) (by rw [List.size_toArray]; omega) (by show (its2.toArray.push w').size ≤ sizeLine + 1; rw [Array.size_push, List.size_toArray]; omega))
    refine ih (i + 1) _ (by omega) lt ?_
    have J := I2.lset (its' := its2 ++ [w']) (ys := zs.take i ++ [zs[i]]) (f := (·.push w')) (t' := s.toks) atq e (by simp) (r2.append (.cons rw' .nil)) (by rw [List.length_append, List.length_singleton, len]; omega)
    rw [upd_comm (Ne.symm hqi), upd_upd] at J
    rw [List.take_succ_eq_append_getElem lt]
    exact J
theorem call_listO {CI : CXT} {EI : XK} (hc : ItL X.K C fi) (calm : X.calm = true) (FI : FnOk X.prog X.w X.K X.mg X.base CI n fi fdI psI (spItL X.K C f)) (bI : Binds X.K fdI psI []) (xI : Passes CI X EI) (hr : Room (n + 2) X.A) : CallR X (.type "list") (rListO X.K C f) := by
  rintro pins s σ H _ us Q I rel ⟨a, dx, fs, l, zs, rfl, ha, hf, hsq, ⟨ul, hul⟩, fin⟩
  obtain ⟨_, rfl, ru⟩ := rel.one
  cases ru
  have sb : Sub X n X.A.in1.in1 := Sub.in1 (Sub.in1 (⟨hr, rfl⟩ : Sub X (n + 2) X.A))
  obtain ⟨-, -, -, hz⟩ := I.list hsq
  refine list_by fun h c new kept => ?_
  have fr := I.hok.fresh (Nat.le_refl s.heap.objs.size)
  have I1 : Inv X pins σ (upd H s.heap.objs.size (.lst [])) { s with heap := h } := I.laid (t' := s.toks) kept (Nat.le_refl _) ⟨Nat.zero_le _, [], c, .nil, new⟩
  generalize s.heap.objs.size = q at *
  have hne : q ≠ a := fun z => by rw [z, ha] at fr; cases fr
  have hql : l ≠ q := fun z => by rw [← z, hul] at fr; cases fr
  have ha1 : upd H q (.lst []) a = some (.ins C dx fs) := by rw [upd_ne (Ne.symm hne)]; exact ha
  obtain ⟨mA, J, _⟩ := ins_get I1.hok ha1
  obtain ⟨od, J, _⟩ := J.look
  obtain ⟨m0, hF⟩ := I1.fr
  unfold Builtin.List.listExtendWith
  refine wpAny_bind (J.type.here ?_)
  obtain ⟨o1, o2, o3⟩ : Builtin.List.listSameRef (.ref q) (.ref a) = false ∧ (Value.ref C == Value.type "list") = false ∧ (Value.ref C == Value.type "tuple") = false := ⟨by simp [Builtin.List.listSameRef, hne], rfl, rfl⟩
  simp only [o1, o2, o3, Bool.false_eq_true, Bool.or_false, if_false]
  refine wpAny_bind (PySem.W.owit_iter hF I1.ok.mod.kin J hc.walk.at_ hc.walk.fn ?_)
  have e0 : Env0 X.prog X.w X.K X.mg X.base X.A.in1.in1 X.stack { s with heap := h } (upd H q (.lst [])) := by
    obtain ⟨fr0, e1, e2, e3, e4, e5, e6, e7⟩ := I1.env0
    exact ⟨sb.fr ▸ fr0, e1, e2, e3, e4, e5, e6, e7⟩
  have hspI : spItL X.K C f [.ref a] (upd H q (.lst [])) (fun v H' => ∃ it, v = .ref it ∧ upd H q (.lst []) it = none ∧ H' = upd (upd H q (.lst [])) it (ItO l it 0)) EI := ⟨a, dx, fs, l, zs, rfl, ha1, hf, sqL_upd hsq hql, fun it hit => ⟨it, rfl, hit, rfl⟩⟩
  have hl := FI.len _ _ _ _ hspI
  have rel1 : Vals [V.ref a] [Value.ref a] := .cons rfl .nil
  refine wpAny_call (codeAny_mono (FI.run X.A.in1.in1 X.stack _ _ ⟨[.ref a], []⟩ [.ref a] [.ref a] _ EI sb.room e0 (by
    have := bI { s with heap := h } [.ref a] I1.kIn hl
    exact this) rel1 hspI) fun r s' hq' => ?_)
  cases r with
  | error e => exact (xI pins σ _ _ e s' I1 hq')
  | ok fl =>
    cases fl with
    | next => exact False.elim hq'
    | brk => exact False.elim hq'
    | cont => exact False.elim hq'
    | ret u =>
      obtain ⟨v, H', I', rv, it, ev, nit, eH⟩ := I1.after hq'
      subst ev
      rw [eH] at I'
      cases rv
      have hqi : q ≠ it := fun z => by rw [← z, upd_same] at nit; cases nit
      have nit0 : H it = none := by rw [← nit, upd_ne (Ne.symm hqi)]
      have hit : l ≠ it := fun z => by rw [← z, hul] at nit0; cases nit0
      have hai : a ≠ it := fun z => by rw [← z, ha] at nit0; cases nit0
      have ho := itO_get I' (it := it) (l := l) (i := 0) upd_same
      have hT := (DSub.iter_of ho).typeIs
      show PySem.W.OwitIt _ _ _ _ _ _
      unfold PySem.W.OwitIt
      refine wpAny_specialOf (name := Str.ofString "__next__") hT slot_listiter_next.lookup ?_
      show wpAny _ _ _ _ _ _
      have ha2 : upd (upd H q (.lst [])) it (ItO l it 0) a = some (.ins C dx fs) := by rw [upd_ne hai]; exact ha1
      obtain ⟨mA', J', _⟩ := ins_get I'.hok ha2
      obtain ⟨od', J', _⟩ := J'.look
      have loop : ∀ s2, Inv X pins σ (upd (upd H q (.lst [])) it (ItO l it 0)) s2 → codeAny (model X.prog X.w) X.A.in1 (.builtin "list.extend.loop" ⟨[.ref q, .ref it, .none], []⟩) (fin1 (EP X pins σ Q) X.xe q) s2 := fun s2 I2 =>
        loop_listO (X := X) (A1 := X.A.in1) (I2.ok.hd calm) hql hit hqi nit0 hsq hz (fun s3 I3 => ⟨rfl, .ref q, _, I3, rfl, fin q fr⟩) zs.length 0 s2 (by omega) (Nat.zero_le _) I2
      refine wpAny_bind (wpAny_holding ?_)
      unfold Builtin.List.listLengthHint
      refine wpAny_bind (wpAny_bind (J'.type.here ((PySem.W.looks_findIn I'.kIn hc.bare.1).here ?_)))
      refine PySem.W.KFB.if_not rfl ?_
      refine PySem.W.KFB.if_not rfl ?_
      refine wpAny_bind (wpAny_bind (J'.type.here ((PySem.W.looks_findIn I'.kIn hc.bare.2).here ?_)))
      refine wpAny_pure ?_
      refine wpAny_ite_split (fun _ => wpAny_bind (wpAny_rule (wpAny_bind (touch_ok I' (by rw [upd_ne hqi, upd_same]) fun t I2 => ?_)))) (fun _ => ?_)
      · exact wpAny_pure ⟨plainId_quiet PySem.F.plain_extend_loop _, loop _ I2⟩
      · exact wpAny_pure ⟨plainId_quiet PySem.F.plain_extend_loop _, loop _ I'⟩
end
section
variable {K : PySem.W.Frag} {ss : Sl} {mem m1 : List Mc} {td : TE} {C : Addr} {gs : List (Str × D)} {f : Str} {ds : List D}
theorem dt_listO (hd : DT K td ss mem (.dat (.obj C gs)) m1) (hf : gs.lookup f = some (.rls ds)) : DT K (tCB (rListO K C f) (tCons td tNil)) ss mem (.dat (.rls ds)) m1 := fun B H al σ Q S q =>
  hd B H al σ _ S fun B1 H1 al1 v P1 S1 r1 => by
    cases r1 with
    | @obj a _ dx fs _ s r =>
      obtain ⟨x, h1, h2⟩ := r.look hf
      cases h2 with
      | @rls l xs _ sl rl =>
        refine ⟨a, dx, fs, l, xs, rfl, S1.sub _ _ s, h1, SqL.of (S1.sub _ _ sl), ⟨_, S1.sub _ _ sl⟩, fun p np => ?_⟩
        obtain ⟨P2, S2⟩ := S1.lay (o := .lst xs) np
        exact q _ _ _ _ (P1.trans P2) S2 (.rls upd_same (RepAll.mono P2.same _ rl))
end
end DL
end
section
set_option Elab.async false
set_option linter.all false
set_option maxRecDepth 100000
/-! == of dicts with tuple keys and ints as values -/
namespace DL
open PySem PySem.Spec PyProof.Rows L2
section
variable {P : Program} {w : World} {A : Around} {E : Value → Shared → Prop} {s : Shared} {κ : Type} [DecidableEq κ] {knd : HeapKind P w κ}
/-- what the ints at the keys say of the i-th pair of the first -/
def hitAt (xs ys : List (κ × Addr × Value)) (val : Value → Int) (i : Nat) : Bool := match xs[i]? with
  | some x => (match atKey ys x.1 with
    | some y => val x.2.2 == val y.2
    | none => false)
  | none => false
def IntV (v : Value) : Prop := ∃ i t, v = .int i t
def intOf : Value → Int
  | .int i _ => i
  | _ => 0
theorem pairs_same {nm : String} {a b : Addr} {xs ys : List (κ × Addr × Value)} {Q : Bool → Shared → Prop} (la : (a == sysModules) = false) (lb : (b == sysModules) = false) (hu : knd.room A) (da : s.heap.DictOfH knd a xs) (db : s.heap.DictOfH knd b ys)
    (ix : ∀ x ∈ xs, IntV x.2.2) (iy : ∀ y ∈ ys, IntV y.2.2) (fin : ∀ r, (r = true ↔ xs.length = ys.length ∧ ∀ i < xs.length, hitAt xs ys intOf i = true) → Q r s) : wpAny (model P w) A (Builtin.Dict.samePairs nm a b) Q E s := by
  obtain ⟨oa, ea, pa, ga, -, ta, na, ka, -⟩ := da
  obtain ⟨ob, eb, pb, gb, -, tb, nb, kb, ndb⟩ := db
  have sa : ea.size = xs.length := size_of_entries na
  have sb : eb.size = ys.length := size_of_entries nb
  unfold Builtin.Dict.samePairs
  unfold Builtin.Dict.showsAll
  rw [la, lb]
  refine wpAny_bind (wpAny_pure (wpAny_bind (wpAny_pure (wpAny_bind (wpAny_dictEntries ga ta ?_)))))
  dsimp only
  refine wpAny_bind (wpAny_dictEntries gb tb ?_)
  by_cases sz : ea.size = eb.size
  case neg =>
    rw [if_pos (by simpa using sz)]
    refine wpAny_bind (wpAny_rule (wpAny_pure (fin false ⟨(fun z => nomatch z), fun z => absurd z.1 (by rw [← sa, ← sb]; exact sz)⟩)))
  case pos =>
    rw [if_neg (by simp [sz])]
    refine wpAny_bind (wpAny_dictEpoch ga ta (wpAny_bind ?_))
    rw [Std.Legacy.Range.forIn_eq_forIn_range']
    simp only [Nat.div_one, Nat.add_sub_cancel, Nat.sub_zero, Std.Legacy.Range.size]
    refine wpAny_forIn_list _ (fun rest acc s' => s' = s ∧ acc = (none, ()) ∧ ∃ i, rest = List.range' i (ea.size - i) ∧ i ≤ ea.size ∧ ∀ j < i, hitAt xs ys intOf j = true) _ ?_ ?_ _ _ ⟨rfl, rfl, 0, rfl, Nat.zero_le _, fun j z => absurd z (Nat.not_lt_zero j)⟩
    · rintro i rest acc s' ⟨rfl, rfl, i', er, le, so⟩
      have lt : i' < ea.size := Decidable.byContradiction fun z => by
        rw [show ea.size - i' = 0 by omega] at er
        exact absurd er (by simp)
      rw [show ea.size - i' = ea.size - (i' + 1) + 1 by omega, List.range'_succ] at er
      obtain ⟨rfl, rfl⟩ := List.cons.inj er
      have lx : i < xs.length := by omega
      obtain ⟨⟨k, c, u⟩, ex⟩ : ∃ x, xs[i]? = some x := ⟨_, List.getElem?_eq_getElem lx⟩
      have mx := List.mem_of_getElem? ex
      obtain ⟨n, t, rfl⟩ := ix _ mx
      refine wpAny_bind (wpAny_dictEntries ga ta ?_)
      rw [entry_at na i, ex]
      have bad : hitAt xs ys intOf i = false → Q false s' := fun z => fin false ⟨(fun y => nomatch y), fun y => absurd (y.2 i lx) (by rw [z]; exact Bool.false_ne_true)⟩
      show wpAny _ _ (holding [Value.ref c, Value.int n t] _ >>= _) _ _ _
      refine wpAny_bind (wpAny_holding (wpAny_bind (wpAny_dictFind_heap hu (ka _ mx) gb tb nb kb ndb (fun miss => ?_) fun j p ej => ?_)))
      · refine wpAny_pure ?_
        show wpAny _ _ (ite ((!false) = true) _ _) _ _ _
        rw [if_pos (by decide)]
        refine wpAny_pure (wpAny_pure (bad ?_))
        unfold hitAt
        rw [ex]
        show (match atKey ys k with | some y => _ | none => false) = false
        rw [atKey_none_of_get miss]
      · refine wpAny_bind (wpAny_dictEntries gb tb ?_)
        rw [entry_at nb j, ej]
        obtain ⟨n', t', ep⟩ := iy _ (List.mem_of_getElem? ej)
        have hit : hitAt xs ys intOf i = (n == n') := by
          unfold hitAt
          rw [ex]
          show (match atKey ys k with | some y => _ | none => false) = _
          rw [atKey_of_get ndb ej]
          show (n == intOf p.2) = _
          rw [show p.2 = Value.int n' t' from ep]
          rfl
        refine wpAny_holding (SeqAt.EqAt.int_int n t n' t' P w _ _ ?_ |> fun z => by rw [← ep] at z; exact z)
        cases q : n == n' with
        | false =>
          show wpAny _ _ (ite ((!false) = true) _ _) _ _ _
          rw [if_pos (by decide)]
          exact wpAny_pure (wpAny_pure (bad (hit.trans q)))
        | true =>
          show wpAny _ _ (ite ((!true) = true) _ _) _ _ _
          rw [if_neg (by decide)]
          refine wpAny_bind (wpAny_dictEpoch ga ta ?_)
          rw [if_neg (by simp)]
          refine wpAny_pure ⟨rfl, rfl, i + 1, rfl, lt, fun j hj => ?_⟩
          rcases Nat.lt_succ_iff_lt_or_eq.mp hj with z | z
          · exact so j z
          · rw [z, hit, q]
    · rintro acc s' ⟨rfl, rfl, i, er, le, so⟩
      have ei : i = ea.size := Decidable.byContradiction fun z => by
        rw [show ea.size - i = ea.size - (i + 1) + 1 by omega, List.range'_succ] at er
        exact absurd er (by simp)
      subst ei
      exact wpAny_pure (fin true ⟨fun _ => ⟨by omega, fun i hi => so i (by omega)⟩, fun _ => rfl⟩)
end
section
variable {X : Cx}
/-- d == e: keys tuples, values ints -/
def rEqDT : R2 := fun x y H Q => ∃ (a b : Addr) (ks ls : List (List L2.Key × V)), x = .ref a ∧ y = .ref b ∧ Rd H a (.dT ks) ∧ Rd H b (.dT ls) ∧ (∀ p ∈ ks, ∃ i, p.2 = .int i) ∧ (∀ p ∈ ls, ∃ i, p.2 = .int i) ∧
  ∀ r, (r = true ↔ ks.length = ls.length ∧ ∀ p ∈ ks, valV ls p.1 = some p.2) → Q (.bl r) H
theorem KT.ints {H : Hp} {kvs : List (List L2.Key × V)} {xs : List (List L2.Key × Addr × Value)} (r : KT H kvs xs) (h : ∀ p ∈ kvs, ∃ i, p.2 = .int i) : ∀ x ∈ xs, IntV x.2.2 := by
  induction r with
  | nil => exact fun _ z => nomatch z
  | @cons p q ps qs a t ih =>
    intro x hx
    rcases List.mem_cons.mp hx with z | z
    · obtain ⟨i, e⟩ := h p List.mem_cons_self
      have rel := a.2.2
      rw [e] at rel
      exact ⟨i, rel.choose, z ▸ rel.choose_spec⟩
    · exact ih (fun p hp => h p (List.mem_cons_of_mem _ hp)) x z
theorem KT.nth {H : Hp} {kvs : List (List L2.Key × V)} {xs : List (List L2.Key × Addr × Value)} (r : KT H kvs xs) : ∀ (i : Nat) p, kvs[i]? = some p → ∃ x, xs[i]? = some x ∧ x.1 = p.1 ∧ RelV p.2 x.2.2 := by
  induction r with
  | nil => exact fun i p e => by simp at e
  | @cons p q ps qs a t ih =>
    intro i z e
    cases i with
    | zero => exact ⟨q, rfl, Option.some.inj e ▸ a.1.symm, Option.some.inj e ▸ a.2.2⟩
    | succ i => exact ih i z (by simpa using e)
theorem op_eqDT (hu : X.A.units + 1 < cLine) : OpR X (compareOp .Eq) rEqDT := by
  rintro pins s σ H x y v u Q I rx ry ⟨a, b, ks, ls, rfl, rfl, ra, rb, ik1, il1, fin⟩
  cases rx
  cases ry
  obtain ⟨_, la, xs, ka, da⟩ := dt_rd I.hok ra
  obtain ⟨_, lb, ys, kb, db⟩ := dt_rd I.hok rb
  refine wpAny_richCompare_same_room (op := .Eq) da.typeIs db.typeIs PySem.F.slot_dict_eq (wpAny_call_entry PySem.F.slot_dict_eq da.typeIs PySem.F.entry_dict_eq ?_ (PySem.F.args_dict_eq_2 _ _)) (Nat.lt_of_succ_lt hu)
  change wpAny _ _ (Bind.bind (Builtin.Dict.dictSlotArgs "__eq__" ⟨[.ref a, .ref b], []⟩) _) _ _ s
  unfold Builtin.Dict.dictSlotArgs
  refine wpAny_bind (wpAny_bind (wpAny_notOrdered_dict da.typeIs (wpAny_pure ?_)))
  refine wpAny_bind (wpAny_isInstance (b := true) (T := "dict") db.typeIs PySem.F.sub_dict_dict ?_)
  simp only [if_false, Bool.false_eq_true, Bool.not_true]
  refine wpAny_bind (wpAny_pure (wpAny_bind (wpAny_pure (wpAny_bind (pairs_same la lb hu da db (KT.ints ka ik1) (KT.ints kb il1) fun r hr => wpAny_pure ⟨_, rfl, (fun z => nomatch z), ?_⟩)))))
  have l1 : ks.length = xs.length := Paired.length ka
  have l2 : ls.length = ys.length := Paired.length kb
  refine ⟨.bl r, H, I, (by cases r <;> rfl), fin r (hr.trans ⟨fun z => ⟨by omega, fun p hp => ?_⟩, fun z => ⟨by omega, fun i hi => ?_⟩⟩)⟩
  · obtain ⟨i, hi⟩ := List.mem_iff_getElem?.mp hp
    obtain ⟨x, hx, ex, rx⟩ := KT.nth ka i p hi
    have h := z.2 i (List.getElem?_eq_some_iff.mp hx).1
    unfold hitAt at h
    rw [hx] at h
    dsimp only at h
    rw [ex] at h
    obtain ⟨n, en⟩ := ik1 p hp
    rw [en] at rx ⊢
    obtain ⟨t, et⟩ := rx
    have rel := kb.val p.1
    cases q : atKey ys p.1 with
    | none =>
      rw [q] at h
      cases h
    | some y =>
      rw [q] at h rel
      cases q2 : valV ls p.1 with
      | none =>
        rw [q2] at rel
        exact rel.elim
      | some v =>
        rw [q2] at rel
        have mem : ∃ p' ∈ ls, p'.2 = v := by
          unfold valV at q2
          obtain ⟨p', e1, e2⟩ := Option.map_eq_some_iff.mp q2
          exact ⟨p', List.mem_of_find?_eq_some e1, e2⟩
        obtain ⟨p', hp', rfl⟩ := mem
        obtain ⟨n', en'⟩ := il1 p' hp'
        rw [en'] at rel ⊢
        obtain ⟨t', et'⟩ := (show L2.RelV (.int n') y.2 from rel)
        dsimp only at h
        rw [et, et'] at h
        have : n = n' := by simpa [intOf] using h
        rw [this]
  · obtain ⟨p, hp⟩ : ∃ p, ks[i]? = some p := ⟨_, List.getElem?_eq_getElem (by omega)⟩
    obtain ⟨x, hx, ex, rx⟩ := KT.nth ka i p hp
    have h := z.2 p (List.mem_of_getElem? hp)
    have rel := kb.val p.1
    rw [h] at rel
    unfold hitAt
    rw [hx]
    show (match atKey ys x.1 with | some y => intOf x.2.2 == intOf y.2 | none => false) = true
    rw [ex]
    cases q : atKey ys p.1 with
    | none =>
      rw [q] at rel
      exact rel.elim
    | some y =>
      rw [q] at rel
      obtain ⟨n, en⟩ := ik1 p (List.mem_of_getElem? hp)
      rw [en] at rx rel
      obtain ⟨t, et⟩ := rx
      obtain ⟨t', et'⟩ := (show L2.RelV (.int n) y.2 from rel)
      show (intOf x.2.2 == intOf y.2) = true
      rw [et, et']
      simp [intOf]
end
def eqI (mi ni : List (List Int × Int)) : Bool := decide (mi.length = ni.length ∧ ∀ p ∈ mi, lookI ni p.1 = some p.2)
section
variable {K : PySem.W.Frag} {ss : Sl} {mem m1 m2 : List Mc} {ta tb : TE} {x y : Vl} {mi ni : List (List Int × Int)}
theorem kv_ints {B : Hp} : ∀ {mi : List (List Int × Int)} {kvs : List (List L2.Key × V)}, RepKv K B kvs (toD mi) → kvs = mi.map fun p => (ik p.1, V.int p.2)
  | [], _, h => by cases h; rfl
  | p :: m, _, h => by
    cases h with
    | cons h1 h2 =>
      cases h1
      rw [kv_ints (mi := m) h2]
      rfl
theorem valV_ints (k : List Int) : ∀ mi : List (List Int × Int), valV (mi.map fun p => (ik p.1, V.int p.2)) (ik k) = (lookI mi k).map V.int
  | [] => rfl
  | p :: m => by
    show valV ((ik p.1, V.int p.2) :: _) (ik k) = (if p.1 = k then some p.2 else lookI m k).map V.int
    by_cases e : p.1 = k
    · rw [if_pos e, valV_pos (congrArg ik e)]; rfl
    · rw [if_neg e, valV_neg fun z => e (ik_inj z)]
      exact valV_ints k m
theorem dt_eqDic (ha : DT K ta ss mem x m1) (hb : DT K tb ss m1 y m2) (da : IsDic m2 x (toD mi)) (db : IsDic m2 y (toD ni)) : DT K (tOp rEqDT ta tb) ss mem (.dat (.bl (eqI mi ni))) m2 :=
  dt_op ha hb fun B H al σ v w Q S hv hw k => by
    obtain ⟨a, ks, rfl, ra, ka⟩ := dic_at S hv da
    obtain ⟨b, ls, rfl, rb, kb⟩ := dic_at S hw db
    obtain rfl := kv_ints ka
    obtain rfl := kv_ints kb
    refine ⟨a, b, _, _, rfl, rfl, ra, rb, fun p hp => ?_, fun p hp => ?_, fun r hr => ?_⟩
    · obtain ⟨q, -, rfl⟩ := List.mem_map.mp hp
      exact ⟨_, rfl⟩
    · obtain ⟨q, -, rfl⟩ := List.mem_map.mp hp
      exact ⟨_, rfl⟩
    · have e : r = eqI mi ni := by
        have z : r = true ↔ eqI mi ni = true := by
          rw [hr]
          unfold eqI
          rw [decide_eq_true_iff, List.length_map, List.length_map]
          refine and_congr_right fun _ => ⟨fun h p hp => ?_, fun h p hp => ?_⟩
          · have := h (ik p.1, .int p.2) (List.mem_map.mpr ⟨p, hp, rfl⟩)
            rw [valV_ints] at this
            cases q : lookI ni p.1 with
            | none => rw [q] at this; cases this
            | some i =>
              rw [q] at this
              cases this
              rfl
          · obtain ⟨q, hq, rfl⟩ := List.mem_map.mp hp
            rw [valV_ints, h q hq]
            rfl
        cases r <;> cases q : eqI mi ni <;> simp_all
      rw [e]
      exact k _ _ _ _ (Stp.refl _ _ _) S (.bl _)
end
end DL
end
section
set_option Elab.async false
set_option linter.all false
set_option maxRecDepth 100000
/-! small rules: dicts and lists that are made and left alone, three targets, != of bools, a method of one of two classes -/
namespace DL
open PySem PySem.Spec PyProof.Rows L2
section
variable {K : PySem.W.Frag} {ss : Sl} {mem m1 m2 m3 : List Mc} {ta tb te td ty : TE} {t : TS} {x : Vl} {r : Vl} {out : Out} {m : List (List Int × D)} {a b : Bool} {d e g : D}
theorem dt_dnewD : DT K tDNewT ss mem (.dat (.dic [])) mem := fun B H al σ Q S k p np => by
  obtain ⟨P2, S2⟩ := S.lay (o := .dT []) np
  exact k _ _ _ _ P2 S2 (.dic (.inl upd_same) .nil)
theorem dt_dictPrD (h : DT K te ss mem (.dat (.lst (m.map pairD))) m1) : DT K (tCB (rDictPrT K) (tCons te tNil)) ss mem (.dat (.dic (putAllI [] m))) m1 := fun B H al σ Q S q =>
  h B H al σ _ S fun B1 H1 al1 v P1 S1 r1 => by
    cases r1 with
    | @lst l xs _ s r =>
      obtain ⟨ps, bs, kvs, rfl, l1, l2, rk, at_⟩ := r.pairs
      refine ⟨l, ps, bs, kvs, rfl, S1.seqL s, l1, l2, fun j p b k v e1 e2 e3 => let z := at_ j p b k v e1 e2 e3; ⟨S1.sub _ _ z.1, S1.sub _ _ z.2⟩, fun c nc => ?_⟩
      obtain ⟨P2, S2⟩ := S1.lay (o := .dT (DL.putAll [] kvs)) nc
      exact q _ _ _ _ (P1.trans P2) S2 (.dic (.inl upd_same) (RepKv.mono P2.same _ (RepKv.putAll rk .nil)))
theorem dt_tlR {ds : List D} (h : DT K te ss mem (.tl ds) m1) : DT K te ss mem (.dat (.rls ds)) m1 := fun B H al σ Q S q =>
  h B H al σ _ S fun B1 H1 al1 v P1 S1 r1 => by
    obtain ⟨a, xs, rfl, h1, h2⟩ := r1
    exact q _ _ _ _ P1 S1 (.rls h1 h2)
/-- xs + [..]: a new own list -/
theorem dt_catRO {ds es : List D} (ha : DT K ta ss mem (.dat (.rls ds)) m1) (hb : DT K tb ss m1 (.tl es) m2) (hl : ds.length + es.length ≤ 16777216) : DT K (tOp rCat ta tb) ss mem (.own m2.length) (m2 ++ [.lst (ds ++ es)]) :=
  dt_op ha hb fun B H al σ v w Q S hv hw k => by
    cases hv with
    | @rls a xs _ a2 a3 =>
      obtain ⟨b, ys, rfl, b2, b3⟩ := hw
      refine ⟨a, b, xs, ys, rfl, rfl, S.sub _ _ a2, S.sub _ _ b2, by rw [a3.len, b3.len, sizeLine_eq]; exact hl, fun p np => ?_⟩
      obtain ⟨P, S'⟩ := S.layOwn (o := .lst (xs ++ ys)) (m := .lst (ds ++ es)) np ⟨S.sub.free np, _, upd_same, a3.append b3⟩
      exact k _ _ _ _ P S' (own_last S p)
theorem ds_frzR {n : Nat} {ds : List D} (i : Nat) (hi : ss[i]? = some (some (.own n))) (hm : mem[n]? = some (.lst ds)) (h : DS K t (ss.set i (some (.dat (.rls ds)))) (mem.set n .gone) out) : DS K t ss mem out := fun B H al σ Dn S q => by
  obtain ⟨v, h1, a, a1, rfl⟩ := S.slot i _ hi
  obtain ⟨b0, xs, a2, a3⟩ := S.mem n a _ a1 hm
  obtain ⟨P1, S1⟩ := S.freeze a1 b0 a2
  have S2 : Sit K (upd B a (.lst xs)) H al σ (ss.set i (some (.dat (.rls ds)))) (mem.set n .gone) := by
    refine ⟨S1.sub, by rw [List.length_set]; exact S1.len, fun j z e => ?_, S1.mlen, S1.mem, S1.nd, S1.there⟩
    by_cases hj : j = i
    · subst hj
      have hl : j < ss.length := (List.getElem?_eq_some_iff.mp hi).1
      rw [List.getElem?_set_self hl] at e
      have e' := Option.some.inj (Option.some.inj e)
      subst e'
      exact ⟨_, h1, .rls upd_same (RepAll.mono P1.same _ a3)⟩
    · rw [List.getElem?_set_ne (Ne.symm hj)] at e
      exact S1.slot j z e
  exact h _ H al σ Dn S2 fun B2 H2 al2 P2 => q _ _ _ (P1.trans P2)
theorem ds_par3 {i j l : Nat} {tt : TA} (h : DA K tt ss mem [d, e, g] m1) : DS K (tPar3 i j l tt) ss mem (.nx (((ss.set i (some (.dat d))).set j (some (.dat e))).set l (some (.dat g))) m1) := fun B H al σ Dn S k =>
  h B H al σ _ S fun B1 H1 al1 vs P1 S1 r1 => by
    cases r1 with
    | cons r1 r2 =>
      cases r2 with
      | cons r2 r3 =>
        cases r3 with
        | cons r3 r4 =>
          cases r4
          exact ⟨_, _, _, rfl, k _ _ _ P1 _ (((S1.put fun q e => by cases e; exact r1).put fun q e => by cases e; exact r2).put fun q e => by cases e; exact r3)⟩
theorem dt_neB (ha : DT K ta ss mem (.dat (.bl a)) m1) (hb : DT K tb ss m1 (.dat (.bl b)) m2) : DT K (tOp rNe ta tb) ss mem (.dat (.bl (!decide (a = b)))) m2 :=
  dt_op ha hb fun B H al σ v w Q S hv hw k => by
    cases hv
    cases hw
    refine ⟨rfl, k _ _ _ _ (Stp.refl _ _ _) S ?_⟩
    have e : decide (V.bl a = V.bl b) = decide (a = b) := by simp
    rw [e]
    exact .bl _
theorem dt_neB_same (ha : DT K ta ss mem (.dat (.bl a)) m1) (hb : DT K tb ss m1 (.dat (.bl a)) m2) : DT K (tOp rNe ta tb) ss mem (.dat (.bl false)) m2 := by
  have e := dt_neB ha hb
  rw [decide_eq_true rfl] at e
  exact e
end
/-- what one of two says -/
def tEither (t u : TE) : TE := fun σ H Q => t σ H Q ∨ u σ H Q
theorem pe_either {X : Cx} {e : Expr} {t u : TE} (h : PE X e t) (g : PE X e u) : PE X e (tEither t u) := ⟨fun pins s σ H Q I q => q.elim (fun z => h.run pins s σ H Q I z) fun z => g.run pins s σ H Q I z⟩
theorem dt_left {K : PySem.W.Frag} {ss : Sl} {mem m1 : List Mc} {t u : TE} {r : Vl} (h : DT K t ss mem r m1) : DT K (tEither t u) ss mem r m1 := fun B H al σ Q S k => .inl (h B H al σ Q S k)
theorem dt_right {K : PySem.W.Frag} {ss : Sl} {mem m1 : List Mc} {t u : TE} {r : Vl} (h : DT K u ss mem r m1) : DT K (tEither t u) ss mem r m1 := fun B H al σ Q S k => .inr (h B H al σ Q S k)
/-! equal dicts -/
theorem lookI_in : ∀ {mi : List (List Int × Int)}, (mi.map (·.1)).Nodup → ∀ p ∈ mi, lookI mi p.1 = some p.2
  | q :: m, nd, p, h => by
    have nd' := List.nodup_cons.mp nd
    show (if q.1 = p.1 then some q.2 else lookI m p.1) = some p.2
    rcases List.mem_cons.mp h with e | e
    · subst e
      exact if_pos rfl
    · have ne : ¬ q.1 = p.1 := fun z => nd'.1 (by show q.1 ∈ _; rw [z]; exact List.mem_map_of_mem e)
      rw [if_neg ne]
      exact lookI_in nd'.2 p e
theorem eqI_same {mi ni : List (List Int × Int)} (hl : mi.length = ni.length) (nd : (ni.map (·.1)).Nodup) (sub : ∀ p ∈ mi, p ∈ ni) : eqI mi ni = true :=
  decide_eq_true ⟨hl, fun p hp => lookI_in nd p (sub p hp)⟩
end DL
end
section
set_option Elab.async false
set_option linter.all false
set_option maxRecDepth 100000
/-! min(xs), xs a list of tuples of ints -/
namespace DL
open PySem PySem.Spec PyProof.Rows L2
abbrev lstO (arr : Array Value) (c : Nat) : Obj := { cls := .type "list", dict := none, data := .seq arr c, slots := #[] }
/-- the list that holds the best so far, whole -/
def SO (S : Addr) (arr : Array Value) (c : Nat) : HO := .ext fun h => h.get? S = some (lstO arr c)
theorem sO_ok {P : Program} {w : World} {H : Hp} {h : Heap} {S : Addr} {arr : Array Value} {c : Nat} (e : h.get? S = some (lstO arr c)) : ObjOk P w H h S (SO S arr c) := ⟨e, ⟨_, e⟩, fun h1 h2 q k => k _ q⟩
/-- what stands while min walks: the iterator, and the list of the best -/
def HM (H : Hp) (l it S : Addr) (i : Nat) (arr : Array Value) (c : Nat) : Hp := upd (upd H it (ItO l it i)) S (SO S arr c)
section
variable {H : Hp} {l it S : Addr} {i j c c' : Nat} {arr arr' : Array Value}
theorem hm_S : HM H l it S i arr c S = some (SO S arr c) := upd_same
theorem hm_it (h : it ≠ S) : HM H l it S i arr c it = some (ItO l it i) := (upd_ne h).trans upd_same
theorem hm_setS : upd (HM H l it S i arr c) S (SO S arr' c') = HM H l it S i arr' c' := upd_upd
theorem hm_setIt (h : it ≠ S) : upd (HM H l it S i arr c) it (ItO l it j) = HM H l it S j arr c := by
  unfold HM
  rw [upd_comm (Ne.symm h), upd_upd]
theorem hm_end (h : it ≠ S) {z w : HO} : upd (upd (HM H l it S i arr c) it z) S w = upd (upd H it z) S w := by
  unfold HM
  rw [upd_comm (Ne.symm h), upd_upd, upd_upd]
end
/-- the tuples that are compared -/
structure MinT (K : PySem.W.Frag) (H : Hp) (l it S : Addr) (xs : List V) (ps : Nat → Addr) (ns : Nat → List Int) : Prop where
  li : l ≠ it
  lS : l ≠ S
  iS : it ≠ S
  ni : H it = none
  nS : H S = none
  sq : SqL K H l xs
  at_ : ∀ i, i < xs.length → xs[i]? = some (.ref (ps i)) ∧ SqT K H (ps i) ((ns i).map V.int) ∧ ps i ≠ it ∧ ps i ≠ S
theorem sqT_upd {K : PySem.W.Frag} {H : Hp} {a b : Addr} {o : HO} {xs : List V} (h : SqT K H a xs) (n : a ≠ b) : SqT K (upd H b o) a xs := by
  unfold SqT Rd at h ⊢
  simp only [upd_ne n]
  exact h
theorem MinT.list {K : PySem.W.Frag} {H : Hp} {l it S : Addr} {xs : List V} {ps : Nat → Addr} {ns : Nat → List Int} (m : MinT K H l it S xs ps ns) (i : Nat) (arr : Array Value) (c : Nat) : SqL K (HM H l it S i arr c) l xs := sqL_upd (sqL_upd m.sq m.li) m.lS
theorem MinT.tup {K : PySem.W.Frag} {H : Hp} {l it S : Addr} {xs : List V} {ps : Nat → Addr} {ns : Nat → List Int} (m : MinT K H l it S xs ps ns) {k : Nat} (hk : k < xs.length) (i : Nat) (arr : Array Value) (c : Nat) : SqT K (HM H l it S i arr c) (ps k) ((ns k).map V.int) :=
  sqT_upd (sqT_upd (m.at_ k hk).2.1 (m.at_ k hk).2.2.1) (m.at_ k hk).2.2.2
/-- the best of the first so many -/
def bestT (ns : Nat → List Int) : Nat → Nat
  | 0 => 0
  | i + 1 => if HT.lexLt (ns (i + 1)) (ns (bestT ns i)) = true then i + 1 else bestT ns i
theorem bestT_le (ns : Nat → List Int) : ∀ i, bestT ns i ≤ i
  | 0 => Nat.le_refl _
  | i + 1 => by
    show (if _ then i + 1 else bestT ns i) ≤ i + 1
    split
    · exact Nat.le_refl _
    · exact Nat.le_succ_of_le (bestT_le ns i)
section
variable {X : Cx} {pins : List (Addr × Obj)} {σ : L2.St} {H : Hp} {A1 : Around} {Rs : Result → Shared → Prop} {l it S : Addr} {xs : List V} {ps : Nat → Addr} {ns : Nat → List Int}
abbrev minC (it S : Addr) : Code := .builtin "min.loop" ⟨[.ref it, .none, .ref S], []⟩
theorem min_end (hc : A1.in1.handled = none) (m : MinT X.K H l it S xs ps ns) {p : Addr} {c : Nat} {s : Shared} (I : Inv X pins σ (HM H l it S xs.length #[.ref p, .ref p] c) s) (hdone : ∀ t, Inv X pins σ H t → Rs (.ok (.ret (.ref p))) t) :
    codeAny (model X.prog X.w) A1 (minC it S) Rs s := by
  have hS : s.heap.get? S = some (lstO #[.ref p, .ref p] c) := (I.hok S _ hm_S).1
  obtain ⟨its, rv, pl, -⟩ := I.list (m.list xs.length #[.ref p, .ref p] c)
  have atI := hm_it (H := H) (l := l) (i := xs.length) (arr := #[Value.ref p, .ref p]) (c := c) m.iS
  refine codeAny_builtin PySem.F.entry_min_loop ?_
  rw [Around.under_plainId (A := A1) PySem.F.plain_min_loop]
  change wpAny _ A1.in1 (seqItems? (.ref S) >>= _) _ _ s
  refine wpAny_bind (wpAny_seqItems hS rfl ?_)
  change wpAny _ A1.in1 (tryCatch (pyNext (.ref it)) _ >>= _) _ _ s
  refine wpAny_bind (wpAny_tryCatch (DSub.py_end hc (itO_get I atI) pl.isList (by rw [List.getElem?_toArray]; exact rv.none_of (List.getElem?_eq_none (Nat.le_refl _))) fun h' e1 eb => ?_))
  have I1 : Inv X pins σ (upd (HM H l it S xs.length #[.ref p, .ref p] c) it (ItE it xs.length)) { s with heap := h' } :=
    I.write (x := it) (e := it) (t' := s.toks) (by rw [atI]; exact True.intro) (.inl rfl) (fun b o nb z => eb b o nb z) ⟨_, e1⟩ (itE_ok e1)
  have hS1 : h'.get? S = some (lstO #[.ref p, .ref p] c) := eb S _ (Ne.symm m.iS) hS
  change wpAny _ A1.in1 (updateSeq S (fun _ => #[]) >>= _) _ _ _
  have e2 := Heap.get?_update_self (Obj.mapSeq fun _ => (#[] : Array Value)) hS1 rfl
  have I2 := I1.write (x := S) (e := S) (t' := s.toks) (h' := h'.update S (Obj.mapSeq fun _ => #[])) (by rw [upd_ne (Ne.symm m.iS), hm_S]; exact True.intro) (.inl rfl) (fun b o nb z => (Heap.get?_update_other _ _ (Ne.symm nb)).trans z) ⟨_, e2⟩ (sO_ok e2)
  rw [hm_end m.iS] at I2
  have I3 := ItX.inv_drop I2 upd_same
  rw [ItX.dropH_upd (by rw [upd_ne (Ne.symm m.iS)]; exact m.nS)] at I3
  have I4 := ItX.inv_drop (a := it) (φ := fun h => h.get? it = some (GNX.itEnd xs.length)) I3 upd_same
  rw [ItX.dropH_upd m.ni] at I4
  exact wpAny_bind (wpAny_updateSeq hS1 rfl (wpAny_bind (wpAny_letGo (wpAny_pure (hdone _ I4)))))
theorem min_go (hc : A1.in1.handled = none) (hu : A1.in1.units < cLine) (m : MinT X.K H l it S xs ps ns) (hdone : ∀ t, Inv X pins σ H t → Rs (.ok (.ret (.ref (ps (bestT ns (xs.length - 1)))))) t) :
    ∀ (k i : Nat) (c : Nat) (s : Shared), xs.length - (i + 1) = k → i + 1 ≤ xs.length → Inv X pins σ (HM H l it S (i + 1) #[.ref (ps (bestT ns i)), .ref (ps (bestT ns i))] c) s → codeAny (model X.prog X.w) A1 (minC it S) Rs s := by
  intro k
  induction k with
  | zero =>
    intro i c s hk hi I
    have e : i + 1 = xs.length := by omega
    have e' : xs.length - 1 = i := by omega
    rw [e] at I
    rw [e'] at hdone
    exact min_end hc m I hdone
  | succ k ih =>
    intro i c s hk hi I
    have lt : i + 1 < xs.length := by omega
    have lb : bestT ns i < xs.length := by
      have := bestT_le ns i
      omega
    generalize hp : ps (bestT ns i) = p at I
    have hS : s.heap.get? S = some (lstO #[.ref p, .ref p] c) := (I.hok S _ hm_S).1
    obtain ⟨its, rv, pl, -⟩ := I.list (m.list (i + 1) #[.ref p, .ref p] c)
    have atI := hm_it (H := H) (l := l) (i := i + 1) (arr := #[Value.ref p, .ref p]) (c := c) m.iS
    obtain ⟨w', hw, rw'⟩ := rv.get (m.at_ _ lt).1
    cases rw'
    refine codeAny_builtin PySem.F.entry_min_loop ?_
    rw [Around.under_plainId (A := A1) PySem.F.plain_min_loop]
    change wpAny _ A1.in1 (seqItems? (.ref S) >>= _) _ _ s
    refine wpAny_bind (wpAny_seqItems hS rfl ?_)
    change wpAny _ A1.in1 (tryCatch (pyNext (.ref it)) _ >>= _) _ _ s
    refine wpAny_bind (wpAny_tryCatch (DSub.py_item (itO_get I atI) pl.isList (by rw [List.getElem?_toArray]; exact hw) fun h' e1 sb => ?_))
    have I1 : Inv X pins σ (HM H l it S (i + 1 + 1) #[.ref p, .ref p] c) { s with heap := h' } := by
      have J := I.write (x := it) (e := it) (t' := s.toks) (by rw [atI]; exact True.intro) (.inl rfl) (fun b o nb z => (sb.2 b nb).trans z) ⟨_, e1⟩ (itO_ok e1)
      rw [hm_setIt m.iS] at J
      exact J
    have hS1 : h'.get? S = some (lstO #[.ref p, .ref p] c) := (sb.2 S (Ne.symm m.iS)).trans hS
    change wpAny _ A1.in1 (tryCatch (holding [.ref (ps (i + 1)), .ref (ps (i + 1))] (richCompare .Lt (.ref (ps (i + 1))) (.ref p) >>= _)) _ >>= _) _ _ _
    obtain ⟨i1, r1, p1, _⟩ := I1.tuple (m.tup lt (i + 1 + 1) #[.ref p, .ref p] c)
    obtain ⟨i2, r2, p2, _⟩ := I1.tuple (m.tup lb (i + 1 + 1) #[.ref p, .ref p] c)
    rw [hp] at p2
    refine wpAny_bind (wpAny_tryCatch (wpAny_holding (wpAny_bind (HT.lt_tupInts p1 p2 (intsAre_of r1) (intsAre_of r2) hu ?_))))
    refine wpAny_bind (wpAny_holding (wpAny_truthy_bool (wpAny_bind (wpAny_letGo (wpAny_pure ?_)))))
    have eb : bestT ns (i + 1) = if HT.lexLt (ns (i + 1)) (ns (bestT ns i)) = true then i + 1 else bestT ns i := rfl
    cases hb : HT.lexLt (ns (i + 1)) (ns (bestT ns i)) with
    | true =>
      rw [hb, if_pos rfl] at eb
      simp only [if_true]
      obtain ⟨c2, e2⟩ : ∃ c2, (h'.update S (Obj.mapSeq fun _ => #[Value.ref (ps (i + 1)), .ref (ps (i + 1))])).get? S = some (lstO #[Value.ref (ps (i + 1)), .ref (ps (i + 1))] c2) := ⟨_, Heap.get?_update_self (Obj.mapSeq fun _ => #[Value.ref (ps (i + 1)), .ref (ps (i + 1))]) hS1 rfl⟩
      have I2 := I1.write (x := S) (e := S) (t' := s.toks) (h' := h'.update S (Obj.mapSeq fun _ => #[Value.ref (ps (i + 1)), .ref (ps (i + 1))])) (by rw [hm_S]; exact True.intro) (.inl rfl) (fun b o nb z => (Heap.get?_update_other _ _ (Ne.symm nb)).trans z) ⟨_, e2⟩ (sO_ok e2)
      rw [hm_setS] at I2
      refine wpAny_bind (wpAny_updateSeq hS1 rfl (wpAny_bind (wpAny_letGo (wpAny_pure ⟨plainId_quiet PySem.F.plain_min_loop _, ih (i + 1) c2 _ (by omega) lt ?_⟩))))
      rw [eb]
      exact I2
    | false =>
      rw [hb, if_neg Bool.false_ne_true] at eb
      simp only [Bool.false_eq_true, if_false]
      refine wpAny_bind (wpAny_letGo (wpAny_pure ⟨plainId_quiet PySem.F.plain_min_loop _, ih (i + 1) c _ (by omega) lt ?_⟩))
      rw [eb, hp]
      exact I1
/-- the first turn -/
theorem min_start (hc : A1.in1.handled = none) (hu : A1.in1.units < cLine) (m : MinT X.K H l it S xs ps ns) (pos : 0 < xs.length) (hdone : ∀ t, Inv X pins σ H t → Rs (.ok (.ret (.ref (ps (bestT ns (xs.length - 1)))))) t) {c : Nat} {s : Shared} (I : Inv X pins σ (HM H l it S 0 #[] c) s) :
    codeAny (model X.prog X.w) A1 (minC it S) Rs s := by
  have hS : s.heap.get? S = some (lstO #[] c) := (I.hok S _ hm_S).1
  obtain ⟨its, rv, pl, -⟩ := I.list (m.list 0 #[] c)
  have atI := hm_it (H := H) (l := l) (i := 0) (arr := #[]) (c := c) m.iS
  obtain ⟨w', hw, rw'⟩ := rv.get (m.at_ _ pos).1
  cases rw'
  refine codeAny_builtin PySem.F.entry_min_loop ?_
  rw [Around.under_plainId (A := A1) PySem.F.plain_min_loop]
  change wpAny _ A1.in1 (seqItems? (.ref S) >>= _) _ _ s
  refine wpAny_bind (wpAny_seqItems hS rfl ?_)
  change wpAny _ A1.in1 (tryCatch (pyNext (.ref it)) _ >>= _) _ _ s
  refine wpAny_bind (wpAny_tryCatch (DSub.py_item (itO_get I atI) pl.isList (by rw [List.getElem?_toArray]; exact hw) fun h' e1 sb => ?_))
  have I1 : Inv X pins σ (HM H l it S (0 + 1) #[] c) { s with heap := h' } := by
    have J := I.write (x := it) (e := it) (t' := s.toks) (by rw [atI]; exact True.intro) (.inl rfl) (fun b o nb z => (sb.2 b nb).trans z) ⟨_, e1⟩ (itO_ok e1)
    rw [hm_setIt m.iS] at J
    exact J
  have hS1 : h'.get? S = some (lstO #[] c) := (sb.2 S (Ne.symm m.iS)).trans hS
  change wpAny _ A1.in1 (updateSeq S (fun _ => #[.ref (ps 0), .ref (ps 0)]) >>= _) _ _ _
  obtain ⟨c2, e2⟩ : ∃ c2, (h'.update S (Obj.mapSeq fun _ => #[Value.ref (ps 0), .ref (ps 0)])).get? S = some (lstO #[Value.ref (ps 0), .ref (ps 0)] c2) := ⟨_, Heap.get?_update_self (Obj.mapSeq fun _ => #[Value.ref (ps 0), .ref (ps 0)]) hS1 rfl⟩
  have I2 := I1.write (x := S) (e := S) (t' := s.toks) (h' := h'.update S (Obj.mapSeq fun _ => #[Value.ref (ps 0), .ref (ps 0)])) (by rw [hm_S]; exact True.intro) (.inl rfl) (fun b o nb z => (Heap.get?_update_other _ _ (Ne.symm nb)).trans z) ⟨_, e2⟩ (sO_ok e2)
  rw [hm_setS] at I2
  exact wpAny_bind (wpAny_updateSeq hS1 rfl (wpAny_pure ⟨plainId_quiet PySem.F.plain_min_loop _, min_go hc hu m hdone _ 0 c2 _ rfl pos I2⟩))
/-- min(xs) -/
def rMinT (K : PySem.W.Frag) : List V → Hp → VK → Prop := fun vs H Q => ∃ (a : Addr) (xs : List V) (ps : Nat → Addr) (ns : Nat → List Int), vs = [V.ref a] ∧ SqL K H a xs ∧ 0 < xs.length ∧
  (∀ i, i < xs.length → xs[i]? = some (.ref (ps i)) ∧ SqT K H (ps i) ((ns i).map V.int)) ∧ Q (.ref (ps (bestT ns (xs.length - 1)))) H
theorem cr_minT (hc : X.calm = true) (hu : X.A.units + 2 < cLine) : CallR X (.builtin "min") (rMinT X.K) := by
  rintro pins s σ H _ us Q I rel ⟨a, xs, ps, ns, rfl, sq, pos, at_, q⟩
  obtain ⟨its, rv, pl, -⟩ := I.list sq
  rw [Vals.ref1 rel]
  refine call_function_tree PySem.F.kind_min PySem.F.plain_min PySem.F.entry_min (PySem.F.args_min1 _) ?_
  change wpAny _ X.A.in1 (Builtin.Builtins.bindParams "min" ["key", "default"] 0 ⟨[], []⟩ >>= _) _ _ s
  refine wpAny_bind (wpAny_of_eq (show Builtin.Builtins.bindParams "min" ["key", "default"] 0 ⟨[], []⟩ = pure [none, none] from rfl) (wpAny_bind (wpAny_pure (wpAny_bind (wpAny_pyIter_list pl.isList ?_)))))
  have f0 : H s.heap.objs.size = none := I.hok.fresh (Nat.le_refl _)
  have I1 : Inv X pins σ (upd H s.heap.objs.size (ItO a s.heap.objs.size 0)) { s with heap := s.heap.push (GNX.itObj a 0) } := I.laid (t' := s.toks) (fun b u e => Heap.get?_push_of_some _ e) (Nat.le_refl _) (itO_ok (Heap.get?_push_size _ rfl))
  generalize hit : s.heap.objs.size = it at f0 I1
  refine wpAny_bind (wpAny_newObj_type ?_)
  have e2 : ((s.heap.push (GNX.itObj a 0)).push (lstO #[] 0)).get? (s.heap.push (GNX.itObj a 0)).objs.size = some (lstO #[] 0) := Heap.get?_push_size _ rfl
  have f1 : upd H it (ItO a it 0) (s.heap.push (GNX.itObj a 0)).objs.size = none := I1.hok.fresh (Nat.le_refl _)
  have I2 : Inv X pins σ (HM H a it (s.heap.push (GNX.itObj a 0)).objs.size 0 #[] 0) { s with heap := (s.heap.push (GNX.itObj a 0)).push (lstO #[] 0) } :=
    I1.laid (t' := s.toks) (fun b u e => Heap.get?_push_of_some _ e) (Nat.le_refl _) (sO_ok e2)
  have lS : it < (s.heap.push (GNX.itObj a 0)).objs.size := by
    rw [← hit, Heap.size_push]
    exact Nat.lt_succ_self _
  generalize (s.heap.push (GNX.itObj a 0)).objs.size = S at f1 I2 lS ⊢
  have iS : it ≠ S := fun z => by rw [← z, upd_same] at f1; cases f1
  have fS : H S = none := by rw [← f1, upd_ne (Ne.symm iS)]
  have off : ∀ {b : Addr} {o : Obj}, s.heap.get? b = some o → b ≠ it ∧ b ≠ S := fun h => by
    have z := Heap.lt_size h
    rw [hit] at z
    exact ⟨Nat.ne_of_lt z, Nat.ne_of_lt (Nat.lt_trans z lS)⟩
  have la : ∃ o, s.heap.get? a = some o := pl.isList.imp fun o h => h.1
  have lt : ∀ i, i < xs.length → ∃ o, s.heap.get? (ps i) = some o := fun i hi => by
    obtain ⟨_, -, p, -⟩ := I.tuple (at_ i hi).2
    exact p.imp fun o h => h.1
  have m : MinT X.K H a it S xs ps ns := ⟨la.elim fun o e => (off e).1, la.elim fun o e => (off e).2, iS, f0, fS, sq, fun i hi => ⟨(at_ i hi).1, (at_ i hi).2, (lt i hi).elim fun o e => off e⟩⟩
  exact wpAny_pure ⟨plainId_quiet PySem.F.plain_min_loop _, min_start (X := X) (A1 := X.A) (I2.ok.hd hc) (show X.A.units + 1 < cLine by omega) m pos (fun t J => ⟨.ref (ps (bestT ns (xs.length - 1))), H, J, rfl, q⟩) I2⟩
theorem crMinT {X : Cx} (K : PySem.W.Frag) (hu : X.A.units + 2 < cLine) (hc : X.calm = true := by rfl) (h : X.K = K := by rfl) : CallR X (.builtin "min") (rMinT K) := h ▸ cr_minT hc hu
end
/-- the least row, the first of several -/
def minRow (rows : List (List Int)) : List Int := rows.getD (bestT (fun i => rows.getD i []) (rows.length - 1)) []
theorem minRow_in {rows : List (List Int)} (ne : rows ≠ []) : minRow rows ∈ rows := by
  have pos := List.length_pos_iff.mpr ne
  have := bestT_le (fun i => rows.getD i []) (rows.length - 1)
  exact getD_in (by omega) _
section
variable {K : PySem.W.Frag} {ss : Sl} {mem m1 : List Mc} {te : TE}
theorem dt_minT {rows : List (List Int)} (h : DT K te ss mem (.dat (.lst (rows.map rowD))) m1) (ne : rows ≠ []) : DT K (tCB (rMinT K) (tCons te tNil)) ss mem (.dat (rowD (minRow rows))) m1 := fun B H al σ Q S q =>
  h B H al σ _ S fun B1 H1 al1 v P1 S1 r1 => by
    cases r1 with
    | @lst l xs _ s r =>
      have len : xs.length = rows.length := by rw [r.len, List.length_map]
      have pos := List.length_pos_iff.mpr ne
      have pick : ∀ i, i < rows.length → ∃ p : Addr, xs[i]? = some (.ref p) ∧ B1 p = some (.tup ((rows.getD i []).map V.int)) := fun i hi => by
        have e : (rows.map rowD)[i]? = some (rowD (rows.getD i [])) := by
          rw [List.getElem?_map, List.getD_eq_getElem?_getD, List.getElem?_eq_getElem hi]
          rfl
        obtain ⟨v, h1, h2⟩ := r.get e
        obtain ⟨p, rfl, h3⟩ := rep_key h2
        refine ⟨p, h1, ?_⟩
        rw [h3]
        unfold ik
        rw [List.map_map]
        rfl
      let ps : Nat → Addr := fun i => if hi : i < rows.length then (pick i hi).choose else 0
      have hps : ∀ i, i < rows.length → xs[i]? = some (.ref (ps i)) ∧ B1 (ps i) = some (.tup ((rows.getD i []).map V.int)) := fun i hi => by
        have e : ps i = (pick i hi).choose := dif_pos hi
        rw [e]
        exact (pick i hi).choose_spec
      refine ⟨l, xs, ps, fun i => rows.getD i [], rfl, S1.seqL s, by omega, fun i hi => ⟨(hps i (by omega)).1, SqT.of (S1.sub _ _ (hps i (by omega)).2)⟩, ?_⟩
      rw [len]
      have lb : bestT (fun i => rows.getD i []) (rows.length - 1) < rows.length := by
        have := bestT_le (fun i => rows.getD i []) (rows.length - 1)
        omega
      obtain ⟨g1, g2⟩ := hps _ lb
      have e : (rows.map rowD)[bestT (fun i => rows.getD i []) (rows.length - 1)]? = some (rowD (minRow rows)) := by
        unfold minRow
        rw [List.getElem?_map, List.getD_eq_getElem?_getD, List.getElem?_eq_getElem lb]
        rfl
      obtain ⟨v, h1, h2⟩ := r.get e
      rw [g1] at h1
      cases h1
      exact q _ _ _ _ P1 S1 h2
end
end DL
end
section
set_option Elab.async false
set_option linter.all false
set_option maxRecDepth 100000
/-! a, b = xs with xs a list; not xs, if xs -/
namespace DL
open PySem PySem.Spec PyProof.Rows L2
theorem pgLst {X : Cx} (K : PySem.W.Frag) (n : Nat) {es : List Expr} {k : Nat} {pos : Pos} {t : TGs} (ht : PGs X es t) (hc : X.calm = true := by rfl) (h : X.K = K := by rfl) (hn : (assignEach es X.env).length = n := by rfl) (hst : (assignEach es X.env).findIdx? (·.1) = none := by rfl) : PG X (.Tuple es k pos) (gUnl K n t) :=
  h ▸ pg_unl hc ht hn hst
section
variable {K : PySem.W.Frag} {ss ss1 : Sl} {mem m1 : List Mc} {te : TE}
theorem dg_lst {gs : TGs} {n : Nat} {ds : List D} {ws : List Nat} (h : DGs K gs ss ds ss1 ws) (hn : ds.length = n) : DG K (gUnl K n gs) ss (.lst ds) ss1 ws := fun B H al σ mem v Q S r k => by
  cases r with
  | lst s r => exact ⟨_, _, rfl, S.seqL s, by rw [r.len]; exact hn, h B H al σ mem _ Q S r k⟩
theorem dt_notL {ds : List D} (h : DT K te ss mem (.dat (.lst ds)) m1) : DT K (tNotT K te) ss mem (.dat (.bl ds.isEmpty)) m1 := fun B H al σ Q S k =>
  h B H al σ _ S fun B1 H1 al1 v P1 S1 r1 => by
    cases r1 with
    | @lst a xs _ s r =>
      have e : (!(!xs.isEmpty)) = ds.isEmpty := by
        cases r <;> rfl
      refine ⟨!xs.isEmpty, .inl ⟨xs, S1.seqL s, rfl⟩, ?_⟩
      rw [e]
      exact k _ _ _ _ P1 S1 (.bl _)
/-- the test of a list -/
def tTruL (K : PySem.W.Frag) (te : TE) : TT := fun σ H Q => te σ H fun x H' => ∃ k, TruV K x H' k ∧ Q k H'
theorem ptTru {X : Cx} (K : PySem.W.Frag) {e : Expr} {te : TE} (h : PE X e te) (hK : X.K = K := by rfl) (he : ∀ whole, isTrue e X.env whole = (do let v ← whole; standAt e.pos; holding [v] (truthy v)) := by intro _; rfl) : PT X e (tTruL K te) := hK ▸ pt_truth h he
theorem db_truL {ds : List D} (h : DT K te ss mem (.dat (.lst ds)) m1) : DB K (tTruL K te) ss mem (!ds.isEmpty) m1 := fun B H al σ Q S k =>
  h B H al σ _ S fun B1 H1 al1 v P1 S1 r1 => by
    cases r1 with
    | @lst a xs _ s r =>
      have e : (!xs.isEmpty) = !ds.isEmpty := by
        cases r <;> rfl
      refine ⟨!xs.isEmpty, .inl ⟨xs, S1.seqL s, rfl⟩, ?_⟩
      rw [e]
      exact k _ _ _ P1 S1
theorem peNotT {X : Cx} (K : PySem.W.Frag) {e : Expr} {te : TE} {pos : Pos} (h : PE X e te) (hK : X.K = K := by rfl) : PE X (.UnaryOp .Not e pos) (tNotT K te) := hK ▸ pe_notT h
theorem dt_eqS {ta tb : TE} {m2 : List Mc} {x y : Str} (ha : DT K ta ss mem (.dat (.str x)) m1) (hb : DT K tb ss m1 (.dat (.str y)) m2) : DT K (tOp rEq ta tb) ss mem (.dat (.bl (decide (x = y)))) m2 :=
  dt_op ha hb fun B H al σ v w Q S hv hw k => by
    cases hv
    cases hw
    refine ⟨rfl, k _ _ _ _ (Stp.refl _ _ _) S ?_⟩
    have e : decide (V.str x = V.str y) = decide (x = y) := by simp
    rw [e]
    exact .bl _
end
end DL
end
section
set_option Elab.async false
set_option linter.all false
set_option maxRecDepth 100000
/-! x += e; a loop that carries a state and may answer in a turn -/
namespace DL
open PySem PySem.Spec PyProof.Rows L2
section
variable {K : PySem.W.Frag} {ss : Sl} {mem m1 : List Mc} {te : TE}
theorem ds_aug {g : Int → Int → Int} {i : Nat} {a b : Int} (hi : ss[i]? = some (some (.dat (.int a)))) (h : DT K te ss mem (.dat (.int b)) m1) : DS K (tAug i te (ipI g)) ss mem (.nx (ss.set i (some (.dat (.int (g a b))))) m1) := fun B H al σ Dn S k => by
  obtain ⟨v, h1, h2⟩ := S.slot i _ hi
  cases h2
  refine ⟨_, h1, h B H al σ _ S fun B1 H1 al1 v P1 S1 r1 => ?_⟩
  cases r1
  exact ⟨a, b, rfl, rfl, k _ _ _ P1 _ (S1.put fun q e => by cases e; exact .int _)⟩
/-- the state behind so many turns, while no turn answers -/
def runE {α : Type} (step : α → Nat → Option α) (a : α) : Nat → Option α
  | 0 => some a
  | n + 1 => (runE step a n).bind fun b => step b n
theorem runE_some {α : Type} {step : α → Nat → Option α} {a : α} {n : Nat} {b : α} (h : runE step a (n + 1) = some b) : ∃ c, runE step a n = some c ∧ step c n = some b := by
  unfold runE at h
  cases q : runE step a n with
  | none => rw [q] at h; cases h
  | some c => rw [q] at h; exact ⟨c, rfl, h⟩
theorem runE_down {α : Type} {step : α → Nat → Option α} {a : α} : ∀ {n : Nat}, (runE step a n).isSome = true → ∀ i, i ≤ n → (runE step a i).isSome = true
  | 0, h, i, hi => by
    have : i = 0 := by omega
    rw [this]
    exact h
  | n + 1, h, i, hi => by
    rcases Nat.lt_or_ge n i with g | g
    · have : i = n + 1 := by omega
      rw [this]
      exact h
    · obtain ⟨b, hb⟩ := Option.isSome_iff_exists.mp h
      obtain ⟨c, hc, -⟩ := runE_some hb
      exact runE_down (by rw [hc]; rfl) i g
/-- the first turn that answers -/
theorem runE_none {α : Type} {step : α → Nat → Option α} {a : α} : ∀ {n : Nat}, runE step a n = none → ∃ j b, j < n ∧ runE step a j = some b ∧ step b j = none
  | 0, h => by cases h
  | n + 1, h => by
    cases q : runE step a n with
    | none =>
      obtain ⟨j, b, hj, h1, h2⟩ := runE_none q
      exact ⟨j, b, by omega, h1, h2⟩
    | some c =>
      unfold runE at h
      rw [q] at h
      exact ⟨n, c, Nat.lt_succ_self _, q, h⟩
theorem ds_forE {α : Type} {wi : TI} {k : Nat} {tb : TS} {n : Nat} {it : Nat → D} (ks : List Nat) (g : α → Sl) (step : α → Nat → Option α) (r : Vl) (I : α → Prop) (a0 : α) (i0 : I a0) (f0 : wipeS ss ks = g a0) (hi : DI K wi (g a0) mem n it mem)
    (ho : ∀ a, ownsUnder mem.length (g a) = true)
    (go : ∀ a i a', I a → i < n → step a i = some a' → I a' ∧ ∃ s', DS K tb ((g a).set k (some (.dat (it i)))) mem (.nx s' mem) ∧ wipeS s' ks = g a')
    (stop : ∀ a i, I a → i < n → step a i = none → DS K tb ((g a).set k (some (.dat (it i)))) mem (.rt r mem)) :
    DS K (tFor wi (gName k) tb) ss mem (match runE step a0 n with | some a => .nx (g a) mem | none => .rt r mem) := by
  let st : Nat → α := fun i => (runE step a0 i).getD a0
  have inv : ∀ i, i ≤ n → (runE step a0 i).isSome = true → I (st i) := fun i => by
    induction i with
    | zero => exact fun _ _ => i0
    | succ i ih =>
      intro le h
      obtain ⟨b, hb⟩ := Option.isSome_iff_exists.mp h
      obtain ⟨c, hc, hs⟩ := runE_some hb
      have e : st i = c := by show (runE step a0 i).getD a0 = c; rw [hc]; rfl
      have e2 : st (i + 1) = b := by show (runE step a0 (i + 1)).getD a0 = b; rw [hb]; rfl
      have z := ih (by omega) (by rw [hc]; rfl)
      rw [e] at z
      rw [e2]
      exact (go c i b z (by omega) hs).1
  have turn : ∀ i, i < n → (runE step a0 (i + 1)).isSome = true → ∃ ss' ws, DG K (gName k) (g (st i)) (it i) ss' ws ∧ (DS K tb ss' mem (.nx (g (st (i + 1))) mem) ∨ DS K tb ss' mem (.ct (g (st (i + 1))) mem)) := fun i lt h => by
    obtain ⟨b, hb⟩ := Option.isSome_iff_exists.mp h
    obtain ⟨c, hc, hs⟩ := runE_some hb
    have e : st i = c := by show (runE step a0 i).getD a0 = c; rw [hc]; rfl
    have e2 : st (i + 1) = b := by show (runE step a0 (i + 1)).getD a0 = b; rw [hb]; rfl
    have z := inv i (by omega) (by rw [hc]; rfl)
    rw [e] at z ⊢
    rw [e2]
    obtain ⟨-, s', d, w⟩ := go c i b z lt hs
    exact ⟨_, _, dg_name, .inl (ds_shed ks [] (by rw [List.append_nil]; exact d) w (ho b) (Nat.le_refl _))⟩
  cases q : runE step a0 n with
  | some a =>
    have e : st n = a := by show (runE step a0 n).getD a0 = a; rw [q]; rfl
    dsimp only
    rw [← e]
    exact ds_pre ks f0 (ds_for hi (fun i => g (st i)) (fun _ => mem) rfl rfl n (Nat.le_refl _) (fun i lt => turn i lt (runE_down (by rw [q]; rfl) (i + 1) lt)) (.inl ⟨rfl, rfl⟩))
  | none =>
    obtain ⟨j, b, hj, h1, h2⟩ := runE_none q
    have e : st j = b := by show (runE step a0 j).getD a0 = b; rw [h1]; rfl
    have z := inv j (by omega) (by rw [h1]; rfl)
    rw [e] at z
    refine ds_pre ks f0 (ds_for hi (fun i => g (st i)) (fun _ => mem) rfl rfl j (by omega) (fun i lt => turn i (by omega) (runE_down (by rw [h1]; rfl) (i + 1) lt)) (.inr ⟨hj, _, _, dg_name, .inl ⟨r, mem, ?_, rfl⟩⟩))
    show DS K tb ((g (st j)).set k _) mem _
    rw [e]
    exact stop b j z hj h2
theorem ds_thenE {α : Type} {t u : TS} {o : Option α} {g : α → Sl} {R : α → D} {d : D} (h : DS K t ss mem (match o with | some a => .nx (g a) mem | none => .rt (.dat d) mem)) (h2 : ∀ a, o = some a → DS K u (g a) mem (.rt (.dat (R a)) mem)) :
    DS K (tSeq t u) ss mem (.rt (.dat (o.elim d R)) mem) := by
  cases o with
  | none => exact ds_stop h
  | some a => exact ds_seq h (h2 a rfl)
end
end DL
end
section
set_option Elab.async false
set_option linter.all false
set_option maxRecDepth 100000
/-! x not in a tuple of texts of the module's top -/
namespace DL
open PySem PySem.Spec PyProof.Rows L2
theorem opNotInC {X : Cx} (K : PySem.W.Frag) (h : X.K = K := by rfl) : OpR X (compareOp .NotIn) (rIn K true) := h ▸ op_notIn_seq
section
variable {K : PySem.W.Frag} {ss : Sl} {mem m1 m2 : List Mc} {ta tb : TE}
theorem reps_str {B : Hp} : ∀ vs : List Str, RepAll K B (vs.map V.str) (vs.map D.str)
  | [] => .nil
  | v :: vs => .cons (.str v) (reps_str vs)
theorem vals_str {B : Hp} : ∀ {vs : List Str} {xs : List V}, RepAll K B xs (vs.map D.str) → xs = vs.map V.str
  | [], _, h => by cases h; rfl
  | v :: vs, _, h => by
    cases h with
    | cons h1 h2 =>
      cases h1
      rw [vals_str h2]
      rfl
theorem dt_gctp {a : Addr} {vs : List Str} (h : ∀ H : Hp, SqT K H a (vs.map V.str)) : DT K (tC (.ref a)) ss mem (.dat (.ctp (vs.map D.str))) mem := dt_c fun B => .ctp (h B) (reps_str vs)
theorem dt_notInC {x : Str} {vs : List Str} (ha : DT K ta ss mem (.dat (.str x)) m1) (hb : DT K tb ss m1 (.dat (.ctp (vs.map D.str))) m2) : DT K (tOp (rIn K true) ta tb) ss mem (.dat (.bl (!decide (x ∈ vs)))) m2 :=
  dt_op ha hb fun B H al σ v w Q S hv hw k => by
    cases hv
    cases hw with
    | @ctp a xs _ s r =>
      have e := vals_str r
      subst e
      have fl : (vs.map V.str).all flatV = true := by
        rw [List.all_eq_true]
        intro y hy
        obtain ⟨z, -, rfl⟩ := List.mem_map.mp hy
        rfl
      have eq : (!inV (.str x) (vs.map V.str)) = !decide (x ∈ vs) := by
        congr 1
        unfold inV
        rw [List.any_map, Bool.eq_iff_iff, List.any_eq_true, decide_eq_true_iff]
        constructor
        · rintro ⟨y, hy, e⟩
          have : y = x := by simpa [eqV] using e
          exact this ▸ hy
        · exact fun h => ⟨x, h, by simp [eqV]⟩
      refine ⟨a, vs.map V.str, rfl, .inr (S.seqT s), rfl, fl, ?_⟩
      rw [if_pos rfl, eq]
      exact k _ _ _ _ (Stp.refl _ _ _) S (.bl _)
end
end DL
end
section
set_option Elab.async false
set_option linter.all false
set_option maxRecDepth 100000
/-! (a, *xs), xs.extend(ys) -/
namespace DL
open PySem PySem.Spec PyProof.Rows L2
section
variable {K : PySem.W.Frag} {ss : Sl} {mem m1 m2 : List Mc} {te to : TE} {t : TA}
theorem paStar {X : Cx} (K : PySem.W.Frag) {e : Expr} {es : List Expr} {te : TE} {t : TA} {p : Pos} (he : PE X e te) (hr : PA X es t) (h : X.K = K := by rfl) (hs : starEach (.Starred e p :: es) X.env = (true, eval e X.env) :: starEach es X.env := by rfl) : PA X (.Starred e p :: es) (StX.tStar K te t) := h ▸ StX.pa_star he hr hs
theorem da_star {ds es : List D} (h : DT K te ss mem (.dat (.tup ds)) m1) (g : DA K t ss m1 es m2) : DA K (StX.tStar K te t) ss mem (ds ++ es) m2 := fun B H al σ Q S k =>
  h B H al σ _ S fun B1 H1 al1 v P1 S1 r1 => by
    cases r1 with
    | @tup a xs _ s r =>
      refine ⟨a, xs, rfl, .inl (S1.seqT (SqT.of s)), g B1 H1 al1 σ _ S1 fun B2 H2 al2 vs P2 S2 r2 => ?_⟩
      exact k _ _ _ _ (P1.trans P2) S2 ((RepAll.mono P2.same _ r).append r2)
theorem dt_extend {n : Nat} {ds es : List D} (ho : DT K to ss mem (.own n) m1) (h : DT K te ss m1 (.tl es) m2) (hm1 : m1[n]? = some (.lst ds)) (hm : m2[n]? = some (.lst ds)) (hl : ds.length + es.length ≤ 16777216) :
    DT K (tBM K "list" rExtend to (tCons te tNil)) ss mem (.dat .non) (m2.set n (.lst (ds ++ es))) := fun B H al σ Q S q =>
  ho B H al σ _ S fun B1 H1 al1 v P1 S1 r1 => by
    obtain ⟨a, a1, rfl⟩ := r1
    obtain ⟨_, xs0, a2, _⟩ := S1.mem n a _ a1 hm1
    refine ⟨.inl ⟨rfl, xs0, SqL.of a2⟩, h B1 H1 al1 σ _ S1 fun B2 H2 al2 w P2 S2 r2 => ?_⟩
    obtain ⟨b, zs, rfl, b1, b2⟩ := r2
    have a1' := P2.get a1
    obtain ⟨b0, xs, c2, c3⟩ := S2.mem n a _ a1' hm
    obtain ⟨P3, S3⟩ := S2.write (o := .lst (xs ++ zs)) (m := .lst (ds ++ es)) a1' b0 ⟨b0, _, upd_same, c3.append b2⟩
    exact ⟨a, b, xs, zs, rfl, rfl, c2, S2.sub _ _ b1, by rw [c3.len, b2.len, sizeLine_eq]; exact hl, q _ _ _ _ ((P1.trans P2).trans P3) S3 .non⟩
/-- a comprehension over a list, any target, said by its items -/
theorem dt_lcGT {α : Type} {g : TG} {vs : List Nat} {tx : TE} (gd : α → D) (z : α) (l : List α) (h : DT K te ss mem (.dat (.lst (l.map gd))) m1) (few : l.length ≤ 16777216) (v : α → D)
    (step : ∀ x ∈ l, ∃ s1 ws, DG K g (wipeS ss vs) (gd x) s1 ws ∧ (∀ w ∈ ws, w ∈ vs) ∧ DT K tx s1 m1 (.dat (v x)) m1) : DT K (tLc (iList K te) g tYes tx vs) ss mem (.tl (l.map v)) m1 := by
  have e : l.map v = (List.range l.length).map fun i => v (l.getD i z) := by
    conv => lhs; rw [← range_get z l]
    rw [List.map_map]
    rfl
  rw [e]
  refine dt_lcMapT (di_map gd l h) (fun i => v (l.getD i z)) few fun i hi => ?_
  rw [nthD_map gd hi z]
  exact step _ (getD_in hi z)
end
end DL
end
section
set_option Elab.async false
set_option linter.all false
set_option maxRecDepth 100000
/-! abs, sum, products of great ints, an own list beside a written one, pop, while -/
namespace DL
open PySem PySem.Spec PyProof.Rows L2
section
variable {K : PySem.W.Frag} {ss ss1 : Sl} {mem m1 m2 : List Mc} {te ta tb to : TE} {i : Int} {d : D} {ds es : List D}
/-- abs of an int -/
def rAbs : List V → Hp → VK → Prop := fun xs _H Q => ∃ i, xs = [.int i] ∧ Q (.int (if i < 0 then -i else i)) _H
theorem callAbs {X : Cx} : CallR X (.builtin "abs") rAbs := call_abs
theorem dt_abs (h : DT K te ss mem (.dat (.int i)) m1) : DT K (tCB rAbs (tCons te tNil)) ss mem (.dat (.int (if i < 0 then -i else i))) m1 := fun B H al σ Q S k =>
  h B H al σ _ S fun _ _ _ _ P1 S1 r1 => by
    cases r1
    exact ⟨i, rfl, k _ _ _ _ P1 S1 (.int _)⟩
theorem callSum {X : Cx} (K : PySem.W.Frag) (hc : X.calm = true) (h : X.K = K := by rfl) : CallR X (.builtin "sum") (rSum K) := h ▸ cr_sum hc
theorem dt_sumL {ns : List Int} (h : DT K te ss mem (.dat (.lst (ns.map .int))) m1) : DT K (tCB (rSum K) (tCons te tNil)) ss mem (.dat (.int ns.sum)) m1 := fun B H al σ Q S k =>
  h B H al σ _ S fun _ _ _ v P1 S1 r1 => by
    cases r1 with
    | lst s r =>
      cases r.ints
      exact ⟨_, ns, rfl, S1.seqL s, k _ _ _ _ P1 S1 (.int _)⟩
/-- * of two ints whose bits together are below the model's line -/
theorem op_mulB {X : Cx} : OpR X (binaryOp .Mult) (rI IntMulOk fun i j => .int (i * j)) := opI fun _ _ _ _ _ _ _ hc q => mul_int q hc
/-- own != written, both lists of plain data -/
theorem dt_neOL {n p : Nat} (ha : DT K ta ss mem (.own p) m1) (hb : DT K tb ss m1 (.dat (.lst es)) m2) (hm : m2[p]? = some (.lst ds)) (hd : D.flat n (.lst ds) = true) (he : D.flat n (.lst es) = true) (hn : n ≤ 64 := by decide) :
    DT K (tOp (rNeD K) ta tb) ss mem (.dat (.bl (!PyData.eqv (D.lst ds).py (D.lst es).py))) m2 :=
  dt_op ha hb fun B H al σ v w Q S hv hw k => by
    obtain ⟨a, a1, rfl⟩ := hv
    obtain ⟨_, xs, a2, a3⟩ := S.mem p a _ a1 hm
    refine ⟨_, _, ?_, Rep.dp S.sub n _ hw he, flat_shaped hd hn, flat_shaped he hn, k _ _ _ _ (Stp.refl _ _ _) S (.bl _)⟩
    match n, hd with
    | n + 1, hd =>
      rw [D.py]
      exact .lst (SqL.of a2) (RepAll.dp S.sub n ds a3 (by simpa [D.flat] using hd))
theorem eqv_nil : PyData.eqv (D.lst ds).py (D.lst []).py = ds.isEmpty := by
  cases ds <;> simp [D.py, D.pyAll, PyData.eqv, PyData.eqvAll]
theorem flat_ints : ∀ (n : Nat) (ns : List Int), D.flatAll n (ns.map D.int) = true
  | _, [] => by simp [D.flatAll]
  | n, x :: ns => by
    rw [List.map_cons, D.flatAll, flat_ints n ns]
    cases n <;> simp [D.flat]
theorem flat_lints (n : Nat) (ns : List Int) : D.flat (n + 1) (.lst (ns.map D.int)) = true := by
  rw [D.flat]
  exact flat_ints n ns
/-- xs.pop(0), xs own -/
theorem dt_pop0 {p : Nat} (ho : DT K to ss mem (.own p) m1) (hm : m1[p]? = some (.lst (d :: ds))) :
    DT K (tBM K "list" rPopAt to (tCons (tC (.int 0)) tNil)) ss mem (.dat d) (m1.set p (.lst ds)) := fun B H al σ Q S k =>
  ho B H al σ _ S fun B1 H1 al1 v P1 S1 r1 => by
    obtain ⟨a, a1, rfl⟩ := r1
    obtain ⟨b0, xs, a2, a3⟩ := S1.mem p a _ a1 hm
    cases a3 with
    | @cons v vs _ _ h1 h2 =>
      refine ⟨.inl ⟨rfl, _, SqL.of a2⟩, ⟨a, _, 0, 0, v, rfl, rfl, a2, by decide, by decide, ?_, rfl, ?_⟩⟩
      · unfold seqIndex?
        simp
      · obtain ⟨P3, S3⟩ := S1.write (o := .lst vs) (m := .lst ds) a1 b0 ⟨b0, _, upd_same, h2⟩
        exact k _ _ _ _ (P1.trans P3) S3 h1
/-- xs.pop(), xs own -/
theorem dt_popE {p : Nat} (ho : DT K to ss mem (.own p) m1) (hm : m1[p]? = some (.lst (ds ++ [d]))) :
    DT K (tBM0 K "list" rPop to) ss mem (.dat d) (m1.set p (.lst ds)) := fun B H al σ Q S k =>
  ho B H al σ _ S fun B1 H1 al1 v P1 S1 r1 => by
    obtain ⟨a, a1, rfl⟩ := r1
    obtain ⟨b0, xs, a2, a3⟩ := S1.mem p a _ a1 hm
    have len := a3.len
    rw [List.length_append, List.length_singleton] at len
    obtain ⟨v, g1, g2⟩ := a3.get (i := ds.length) (d := d) (by simp)
    have t := a3.take ds.length
    rw [List.take_left] at t
    refine ⟨.inl ⟨rfl, _, SqL.of a2⟩, ⟨a, xs, v, rfl, rfl, a2, by rw [len]; exact g1, ?_⟩⟩
    obtain ⟨P3, S3⟩ := S1.write (o := .lst xs.dropLast) (m := .lst ds) a1 b0 ⟨b0, _, upd_same, by rw [List.dropLast_eq_take, len]; exact t⟩
    exact k _ _ _ _ (P1.trans P3) S3 (Rep.mono P3.same d g2)
/-- while: so many turns, then the test is false -/
theorem ds_while {c : TT} {tb : TS} (n : Nat) (f : Nat → Sl) (m : Nat → List Mc) (f0 : f 0 = ss) (m0 : m 0 = mem)
    (test : ∀ i, i < n → DB K c (f i) (m i) true (m i)) (step : ∀ i, i < n → DS K tb (f i) (m i) (.nx (f (i + 1)) (m (i + 1)))) (stop : DB K c (f n) (m n) false (m n)) :
    DS K (tWhile c tb) ss mem (.nx (f n) (m n)) := fun B H al σ Dn S k => by
  refine ⟨fun q σ' H' => ∃ i, i ≤ n ∧ q = n - i ∧ ∃ B' al', Stp B H al B' H' al' ∧ Sit K B' H' al' σ' (f i) (m i), ⟨n, 0, Nat.zero_le _, rfl, B, al, Stp.refl _ _ _, by rw [f0, m0]; exact S⟩, ?_⟩
  rintro q σ1 H1 ⟨i, hi, rfl, B1, al1, P1, S1⟩
  rcases Nat.lt_or_ge i n with lt | ge
  · refine test i lt B1 H1 al1 σ1 _ S1 fun B2 H2 al2 P2 S2 => ?_
    rw [if_pos rfl]
    refine ⟨fun σ' H' => ∃ B' al', Stp B H al B' H' al' ∧ Sit K B' H' al' σ' (f (i + 1)) (m (i + 1)), fun σ' H' w => ⟨n - (i + 1), by omega, i + 1, lt, rfl, w⟩, ?_⟩
    exact step i lt B2 H2 al2 σ1 _ S2 fun B3 H3 al3 P3 σ3 S3 => ⟨B3, al3, (P1.trans P2).trans P3, S3⟩
  · have e : i = n := by omega
    subst e
    refine stop B1 H1 al1 σ1 _ S1 fun B2 H2 al2 P2 S2 => ?_
    rw [if_neg Bool.false_ne_true]
    exact k _ _ _ (P1.trans P2) σ1 S2
end
end DL
end
section
set_option Elab.async false
set_option linter.all false
set_option maxRecDepth 100000
/-! defs that give a new list which the caller may change -/
namespace DL
open PySem PySem.Spec PyProof.Rows L2
/-- what a def of data gives: a new object, its own caller's from then on -/
def spN (K : PySem.W.Frag) (n : Nat) (R : List D → Mc → Prop) : Sp := fun vs H Q _ => ∃ B ds m, R ds m ∧ ds.length = n ∧ Sit K B H [] (vs.map some) ((ds.map Vl.dat).map some) [] ∧
  ∀ B' H' a, Stp B H [] B' H' [a] → Sit K B' H' [a] (vs.map some) ((ds.map Vl.dat).map some) [m] → Q (.ref a) H'
section
variable {K : PySem.W.Frag} {ss : Sl} {mem m1 : List Mc} {ds es : List D} {d : D}
theorem dt_callN {n : Nat} {R : List D → Mc → Prop} {m : Mc} {E : XK} {t : TA} (h : DA K t ss mem ds m1) (hR : R ds m) (hn : ds.length = n := by rfl) : DT K (tCall (spN K n R) [] E t) ss mem (.own m1.length) (m1 ++ [m]) := fun B H al σ Q S k =>
  h B H al σ _ S fun B1 H1 al1 vs P1 S1 r1 => by
    refine ⟨B1, ds, m, hR, hn, ?_, fun B' H' a P S' => ?_⟩
    · rw [List.append_nil]
      exact pack_slots S1.sub r1
    · have P0 : Stp B1 H1 [] B' H' [] := P.drop 0 (Nat.le_refl _)
      obtain ⟨P2, S2⟩ := S1.after P0 S'.sub
      have fresh : H1 a = none := by
        obtain ⟨ex, q, hx⟩ := P.ext
        exact hx a (by rw [List.nil_append] at q; rw [← q]; exact List.mem_cons_self)
      have nal : a ∉ al1 := fun z => S1.there a z fresh
      have at_ : H' a ≠ none := S'.there a List.mem_cons_self
      have P3 : Stp B1 H1 al1 B' H' (al1 ++ [a]) := ⟨P2.same, P2.frame, P2.fresh, P2.stay, [a], rfl, fun c hc => List.mem_singleton.mp hc ▸ fresh⟩
      have at1 : (al1 ++ [a])[m1.length]? = some a := by
        rw [← S1.mlen, List.getElem?_append_right (Nat.le_refl _), Nat.sub_self]
        rfl
      have slots : ∀ (i : Nat) (r : Vl), ss[i]? = some (some r) → ∃ v : V, σ[i]? = some (some v) ∧ VlOk K B' (al1 ++ [a]) v r := fun i r e => by
        obtain ⟨v, h1, h2⟩ := S1.slot i r e
        exact ⟨v, h1, h2.step P3⟩
      refine k B' H' (al1 ++ [a]) (.ref a) (P1.trans P3) ⟨S2.sub, S2.len, slots, ?_, fun l c q e1 e2 => ?_, ?_, fun c hc => ?_⟩ ⟨a, at1, rfl⟩
      · rw [List.length_append, List.length_append, S1.mlen]
        rfl
      · rcases Nat.lt_or_ge l al1.length with lt | ge
        · rw [List.getElem?_append_left lt] at e1
          rw [List.getElem?_append_left (S1.mlen ▸ lt)] at e2
          exact S2.mem l c q e1 e2
        · have up := (List.getElem?_eq_some_iff.mp e1).1
          rw [List.length_append, List.length_singleton] at up
          have el : l = al1.length := by omega
          subst el
          rw [List.getElem?_append_right (Nat.le_refl _), Nat.sub_self] at e1
          rw [List.getElem?_append_right (by rw [S1.mlen]; exact Nat.le_refl _), S1.mlen, Nat.sub_self] at e2
          exact Option.some.inj e1 ▸ Option.some.inj e2 ▸ S'.mem 0 a m rfl rfl
      · rw [List.nodup_append]
        refine ⟨S1.nd, List.pairwise_singleton _ _, fun c hc b hb e => ?_⟩
        rw [List.mem_singleton] at hb
        exact nal (hb ▸ e ▸ hc)
      · rcases List.mem_append.mp hc with hc | hc
        · exact S2.there c hc
        · exact List.mem_singleton.mp hc ▸ at_
end
section
variable {P : Program} {w : World} {K : PySem.W.Frag} {mg : Str → Option Value} {base : Heap}
theorem fnN {x qual : Str} {st : Stmt} {f : Addr} {fd : FuncData} {N ps : List Str} {k n : Nat} {R : List D → Mc → Prop} (F : Fun K x qual st f fd) (S : FnScope N ps (defScope st)) (hp : ps.length = n)
    (hbody : ∀ (cdv : Value) (A : Around) (outer : List Env) (s : Shared) (H : Hp) (E : XK), Room k (A.deeper (envOfC qual (defScope st) s.heap.objs.size f cdv)) →
      ∃ t, PSs (cxOf CX0 P w K mg base N qual (defScope st) f cdv A outer s H E).nox (defBody st) t ∧
        ∀ ds m, R ds m → ds.length = n → ∃ (j : Nat) (mm : List Mc), DS K t ((ds.map fun d => some (.dat d)) ++ List.replicate (N.length - n) none) [] (.rt (.own j) mm) ∧ mm[j]? = some m) :
    FnOk P w K mg base CX0 (k + 1) f fd ps (spN K n R) := by
  refine F.ok S (fun vs H Q E h => ?_) (fun cdv A outer s H vs Q E hr h => ?_)
  · obtain ⟨B, ds, m, _, hn, S0, _⟩ := h
    have := S0.len
    rw [List.length_map, List.length_map, List.length_map] at this
    omega
  · obtain ⟨B, ds, m, hR, hn, S0, k0⟩ := h
    obtain ⟨t, ht, hd⟩ := hbody cdv A outer s H E hr
    refine ⟨t, ht, ?_⟩
    obtain ⟨j, mm, h, hj⟩ := hd ds m hR hn
    have st := start_sit (N := N) (n := n) S0 (by rw [List.length_map]; exact hn)
    rw [List.map_map] at st
    refine h B H [] (L2.start N vs) _ st fun B' H' al' P' σ' ss' v S' rv => ?_
    obtain ⟨a, a1, rfl⟩ := rv
    obtain ⟨ex, q, hx⟩ := P'.ext
    rw [List.nil_append] at q
    have ina := List.mem_of_getElem? a1
    have P2 : Stp B H [] B' H' [a] := ⟨P'.same, P'.frame, P'.fresh, P'.stay, [a], rfl, fun c hc => List.mem_singleton.mp hc ▸ hx a (q ▸ ina)⟩
    refine k0 B' H' a P2 ⟨S'.sub, S0.len, fun i r e => ?_, rfl, fun l c z e1 e2 => ?_, List.pairwise_singleton _ _, fun c hc => ?_⟩
    · obtain ⟨v, h1, h2⟩ := S0.slot i r e
      exact ⟨v, h1, h2.step P2⟩
    · match l, e1, e2 with
      | 0, e1, e2 => exact Option.some.inj e1 ▸ Option.some.inj e2 ▸ S'.mem j a m a1 hj
    · exact List.mem_singleton.mp hc ▸ S'.there a ina
end
end DL
end
section
set_option Elab.async false
set_option linter.all false
set_option maxRecDepth 100000
/-! own + a list as it lies; names let go -/
namespace DL
open PySem PySem.Spec PyProof.Rows L2
section
variable {K : PySem.W.Frag} {ss s1 s2 : Sl} {mem m1 m2 : List Mc} {te ta tb : TE} {ds es : List D} {t : TS}
theorem dt_catOT {n : Nat} (ha : DT K ta ss mem (.own n) m1) (hb : DT K tb ss m1 (.tl es) m2) (hm : m2[n]? = some (.lst ds)) (hl : ds.length + es.length ≤ 16777216) :
    DT K (tOp rCat ta tb) ss mem (.own m2.length) (m2 ++ [.lst (ds ++ es)]) :=
  dt_op ha hb fun B H al σ v w Q S hv hw k => by
    obtain ⟨a, a1, rfl⟩ := hv
    obtain ⟨b, ys, rfl, y1, y2⟩ := hw
    obtain ⟨_, xs, x1, x2⟩ := S.mem n a _ a1 hm
    refine ⟨a, b, xs, ys, rfl, rfl, x1, S.sub _ _ y1, by rw [x2.len, y2.len, sizeLine_eq]; exact hl, fun p np => ?_⟩
    obtain ⟨P3, S3⟩ := S.layOwn (o := .lst (xs ++ ys)) (m := .lst (ds ++ es)) np ⟨S.sub.free np, _, upd_same, x2.append y2⟩
    exact k _ _ _ _ P3 S3 ⟨p, by rw [← S.mlen, List.getElem?_append_right (Nat.le_refl _), Nat.sub_self]; rfl, rfl⟩
/-- tuple + tuple -/
theorem dt_catTup (ha : DT K ta ss mem (.dat (.tup ds)) m1) (hb : DT K tb ss m1 (.dat (.tup es)) m2) (hl : ds.length + es.length ≤ 16777216) : DT K (tOp (rCatA K) ta tb) ss mem (.dat (.tup (ds ++ es))) m2 :=
  dt_op ha hb fun B H al σ v w Q S hv hw k => by
    cases hv with
    | @tup a xs _ a2 a3 =>
      cases hw with
      | @tup b ys _ b2 b3 =>
        refine ⟨a, b, xs, ys, rfl, rfl, SqT.of (S.sub _ _ a2), SqT.of (S.sub _ _ b2), by rw [a3.len, b3.len, sizeLine_eq]; exact hl, fun z => ?_, fun _ z => ?_, fun _ _ p np => ?_⟩
        · subst z
          cases a3
          exact k _ _ _ _ (Stp.refl _ _ _) S (.tup b2 b3)
        · subst z
          cases b3
          rw [List.append_nil] at k
          exact k _ _ _ _ (Stp.refl _ _ _) S (.tup a2 a3)
        · obtain ⟨P3, S3⟩ := S.lay (o := .tup (xs ++ ys)) np
          exact k _ _ _ _ P3 S3 (.tup upd_same (RepAll.mono P3.same _ (a3.append b3)))
/-- while, by an invariant and a measure -/
theorem ds_whileM {α : Type} {c : TT} {tb : TS} (g : α → Sl) (m : α → List Mc) (I : α → Prop) (μ : α → Nat) (stop : α → Prop) (a0 : α) (i0 : I a0) (f0 : g a0 = ss) (m0 : m a0 = mem)
    (turn : ∀ a, I a → (stop a ∧ DB K c (g a) (m a) false (m a)) ∨ ∃ a', I a' ∧ μ a' < μ a ∧ DB K c (g a) (m a) true (m a) ∧ DS K tb (g a) (m a) (.nx (g a') (m a'))) :
    ∃ a, I a ∧ stop a ∧ DS K (tWhile c tb) ss mem (.nx (g a) (m a)) := by
  have chain : ∀ k a, μ a ≤ k → I a → ∃ (n : Nat) (q : Nat → α), q 0 = a ∧ (∀ i, i < n → DB K c (g (q i)) (m (q i)) true (m (q i)) ∧ DS K tb (g (q i)) (m (q i)) (.nx (g (q (i + 1))) (m (q (i + 1))))) ∧ I (q n) ∧ stop (q n) ∧ DB K c (g (q n)) (m (q n)) false (m (q n)) := fun k => by
    induction k with
    | zero =>
      intro a h ia
      rcases turn a ia with ⟨h1, h2⟩ | ⟨a', -, lt, -⟩
      · exact ⟨0, fun _ => a, rfl, fun i hi => absurd hi (Nat.not_lt_zero _), ia, h1, h2⟩
      · omega
    | succ k ih =>
      intro a h ia
      rcases turn a ia with ⟨h1, h2⟩ | ⟨a', ia', lt, h1, h2⟩
      · exact ⟨0, fun _ => a, rfl, fun i hi => absurd hi (Nat.not_lt_zero _), ia, h1, h2⟩
      · obtain ⟨n, q, q0, qs, qe⟩ := ih a' (by omega) ia'
        refine ⟨n + 1, fun | 0 => a | i + 1 => q i, rfl, fun i hi => ?_, qe⟩
        match i with
        | 0 => exact ⟨h1, by show DS K tb (g a) (m a) (.nx (g (q 0)) (m (q 0))); rw [q0]; exact h2⟩
        | i + 1 => exact qs i (by omega)
  obtain ⟨n, q, q0, qs, qi, q1, q2⟩ := chain (μ a0) a0 (Nat.le_refl _) i0
  exact ⟨q n, qi, q1, ds_while n (fun i => g (q i)) (fun i => m (q i)) (by rw [q0]; exact f0) (by rw [q0]; exact m0) (fun i hi => (qs i hi).1) (fun i hi => (qs i hi).2) q2⟩
theorem ends_seq {t u : TS} {d : D} {m' : List Mc} (h : DS K t ss mem (.nx s1 m1)) (g : Ends1 K u s1 m1 d m') : Ends1 K (tSeq t u) ss mem d m' := by
  obtain ⟨more, g | ⟨e, s, g⟩⟩ := g
  · exact ⟨more, .inl (ds_seq h g)⟩
  · exact ⟨more, .inr ⟨e, s, ds_seq h g⟩⟩
/-- .. and what follows it -/
theorem ends_whileM {α : Type} {c : TT} {tb u : TS} {d : D} {m' : List Mc} (g : α → Sl) (m : α → List Mc) (I : α → Prop) (μ : α → Nat) (stop : α → Prop) (a0 : α) (i0 : I a0) (f0 : g a0 = ss) (m0 : m a0 = mem)
    (turn : ∀ a, I a → (stop a ∧ DB K c (g a) (m a) false (m a)) ∨ ∃ a', I a' ∧ μ a' < μ a ∧ DB K c (g a) (m a) true (m a) ∧ DS K tb (g a) (m a) (.nx (g a') (m a')))
    (rest : ∀ a, I a → stop a → Ends1 K u (g a) (m a) d m') : Ends1 K (tSeq (tWhile c tb) u) ss mem d m' := by
  obtain ⟨a, ia, sa, h⟩ := ds_whileM g m I μ stop a0 i0 f0 m0 turn
  exact ends_seq h (rest a ia sa)
end
end DL
end
section
set_option Elab.async false
set_option linter.all false
set_option maxRecDepth 100000
/-! *xs, y = a list; every second item of a list; <= of tuples of ints -/
namespace DL
open PySem PySem.Spec PyProof.Rows L2
/-- *xs, y = a list of one item or more -/
def gStarL (K : PySem.W.Frag) (g1 g2 : TG) : TG := fun v σ H Q => ∃ a zs y, v = .ref a ∧ SqL K H a (zs ++ [y]) ∧ zs.length ≤ 16000 ∧ ∀ p, H p = none → g1 (.ref p) σ (upd H p (.lst zs)) fun σ1 H1 => g2 y σ1 H1 Q
theorem pgStarL {X : Cx} (K : PySem.W.Frag) {t1 : Expr} {y : Str} {k : Nat} {py p1 pos : Pos} {g1 g2 : TG} (h1 : PG X t1 g1) (h2 : PG X (.Name y py) g2) (hc : X.calm = true := by rfl) (hK : X.K = K := by rfl) :
    PG X (.Tuple [.Starred t1 p1, .Name y py] k pos) (gStarL K g1 g2) := by
  subst hK
  refine ⟨fun pins s σ H v u Q I r hw => ?_⟩
  obtain ⟨a, zs, w, rfl, hq, few, hw⟩ := hw
  cases r
  obtain ⟨its, rv, pl, -⟩ := I.list hq
  have ln := rv.length
  rw [List.length_append, List.length_singleton] at ln
  have isl := pl.isList
  have ha : a < s.heap.objs.size := isl.elim fun o z => Heap.lt_size z.1
  have hne : a ≠ s.heap.objs.size := Nat.ne_of_lt ha
  have front : Vals zs (its.take zs.length) := by
    have z := rv.take zs.length
    rwa [List.take_left] at z
  obtain ⟨wl, el, rl⟩ := rv.get (i := zs.length) (x := w) (by simp)
  have parts : its.drop zs.length = [wl] := by
    refine List.ext_getElem? fun i => ?_
    rw [List.getElem?_drop]
    match i with
    | 0 => exact el
    | i + 1 => rw [List.getElem?_eq_none (by omega)]; rfl
  rw [PyProof.Rows.assign_Tuple]
  refine wpAny_bind (wpAny_standAt ?_)
  show wpAny _ _ (unpack (.ref a) [(true, assign t1 X.env), (false, assign (.Name y py) X.env)]) _ _ s
  unfold unpack
  refine wpAny_bind (wpAny_holding ?_)
  show wpAny _ _ (unpackItems (.ref a) 2 (some 0)) _ _ s
  unfold unpackItems notIterableAtAll
  refine wpAny_bind (wpAny_bind (wpAny_specialOf isl.typeIs slot_list_iter.lookup (wpAny_pure ?_)))
  rw [if_neg Bool.false_ne_true]
  refine wpAny_bind (wpAny_holding (wpAny_pyIter_list isl ?_))
  refine wpAny_bind (wpAny_holding (wpAny_pure ?_))
  rw [if_neg (Nat.not_lt_zero _)]
  have sz : (s.heap.push { cls := .type "list_iterator", data := .fields #[.ref a, .int 0 0] }).objs.size = s.heap.objs.size + 1 := Heap.size_push ..
  refine wpAny_bind (wpAny_holding (PySem.W.kun_collect (T := "list_iterator") (.inr (.inr (.inl rfl))) (Walks.list (A := X.A.in1) (I.ok.hd hc) s.heap.objs.size a hne its.toArray) (fun j u st => st.1.typeIs) (k := 0) (Nat.zero_le _)
    ⟨⟨_, Heap.get?_push_size _ rfl, rfl, rfl⟩, isl.push _⟩ (show s.heap.objs.size < (s.heap.push _).objs.size from sz ▸ Nat.lt_succ_self _) (show a < (s.heap.push _).objs.size from sz ▸ Nat.lt_succ_of_lt ha) (fun h2' tk kept => ?_) (by rw [List.size_toArray, sizeLine_eq]; omega)))
  have grown : ∀ b o, s.heap.get? b = some o → h2'.get? b = some o := fun b o e => kept b o (Nat.ne_of_lt (Heap.lt_size e)) (Heap.get?_push_of_some _ e)
  have J : Inv X pins σ H { s with heap := h2', toks := tk } := I.kept (t' := tk) grown
  have eL : (its.toArray.toList.drop 0) = its := by simp
  rw [eL]
  show wpAny _ _ (if its.length < 1 then _ else _) _ _ _
  rw [if_neg (by omega)]
  show wpAny _ _ (newList (its.take (its.length - 1)) >>= fun d => pure ([] ++ [d] ++ its.drop (its.length - 1))) _ _ _
  have e1 : its.length - 1 = zs.length := by omega
  rw [e1, parts]
  refine wpAny_bind (wpAny_newObj_type ?_ (by show (List.take zs.length its).toArray.size ≤ sizeLine; rw [List.size_toArray, List.length_take, sizeLine_eq]; omega))
  refine wpAny_pure ?_
  have np : H h2'.objs.size = none := J.hok.fresh (Nat.le_refl _)
  have laid := J.laid (t' := tk) (o := .lst zs) (h' := h2'.push { cls := .type "list", data := .seq (its.take zs.length).toArray }) (fun b o e => Heap.get?_push_of_some _ e) (Nat.le_refl _) ⟨by rw [sizeLine_eq]; omega, _, 0, front, Heap.get?_push_size _ rfl⟩
  show wpAny _ _ (assignInOrder [assign t1 X.env, assign (.Name y py) X.env] [.ref h2'.objs.size, wl]) _ _ _
  refine assignInOrder_cons (thn (h1.run pins _ σ _ (.ref h2'.objs.size) _ _ laid rfl (hw _ np)) fun _ s3 ⟨σ3, H3, I3, q3⟩ => ?_)
  exact assignInOrder_cons (thn (h2.run pins s3 σ3 H3 w wl Q I3 rl q3) fun _ s4 z => assignInOrder_nil z)
/-- every second item, from the first on -/
def evl {α : Type} : List α → List α
  | [] => []
  | [x] => [x]
  | x :: _ :: l => x :: evl l
theorem evl_pick {α : Type} : ∀ m : List α, (List.range ((m.length + 1) / 2)).filterMap (fun k => m[2 * k]?) = evl m
  | [] => by simp [evl]
  | [x] => by simp [evl]
  | x :: y :: m => by
    have e : ((x :: y :: m).length + 1) / 2 = (m.length + 1) / 2 + 1 := by
      simp only [List.length_cons]
      omega
    rw [e, List.range_succ_eq_map, List.filterMap_cons]
    have h0 : (x :: y :: m)[2 * 0]? = some x := rfl
    rw [h0]
    show x :: _ = x :: evl m
    rw [← evl_pick m, List.filterMap_map]
    refine congrArg (x :: ·) (congrArg (fun f => List.filterMap f _) (funext fun k => ?_))
    show (x :: y :: m)[2 * (k + 1)]? = m[2 * k]?
    rw [show 2 * (k + 1) = 2 * k + 1 + 1 by omega, List.getElem?_cons_succ, List.getElem?_cons_succ]
theorem evl_map {α β : Type} (f : α → β) : ∀ l : List α, evl (l.map f) = (evl l).map f
  | [] => rfl
  | [x] => rfl
  | x :: y :: l => congrArg (f x :: ·) (evl_map f l)
theorem evl_len {α : Type} : ∀ l : List α, (evl l).length ≤ l.length
  | [] => Nat.le_refl _
  | [x] => Nat.le_refl _
  | x :: y :: l => by
    have := evl_len l
    show (evl l).length + 1 ≤ l.length + 1 + 1
    omega
theorem pick2 (its : Array Value) (n : Nat) (lo : Option Int) (h : (lo = none ∧ n = 0) ∨ (lo = some 1 ∧ n = 1)) : slicePick its lo none (some 2) = (evl (its.toList.drop n)).toArray := by
  have key : ∀ st : Int, st = (n : Int) ∨ (its.size ≤ n ∧ st = its.size) → ((sliceRange st its.size 2).filterMap (its[·]?)) = evl (its.toList.drop n) := fun st hst => by
    rw [← evl_pick]
    have cnt : (its.toList.drop n).length = its.size - n := by rw [List.length_drop, Array.length_toList]
    unfold sliceRange
    rw [if_pos (show (2 : Int) > 0 by decide), cnt]
    by_cases lt : st < its.size
    · have e : st = n := by rcases hst with e | ⟨e1, e2⟩ <;> omega
      subst e
      rw [if_pos lt]
      have ec : (((its.size : Int) - (n : Int) + 2 - 1) / 2).toNat = (its.size - n + 1) / 2 := by omega
      show List.filterMap (fun x => its[x]?) (List.map (fun k : Nat => ((n : Int) + 2 * (k : Int)).toNat) (List.range (((its.size : Int) - (n : Int) + 2 - 1) / 2).toNat)) = _
      rw [ec, List.filterMap_map]
      refine congrArg (fun f => List.filterMap f _) (funext fun k => ?_)
      show its[((n : Int) + 2 * (k : Int)).toNat]? = (its.toList.drop n)[2 * k]?
      rw [List.getElem?_drop, Array.getElem?_toList, show ((n : Int) + 2 * (k : Int)).toNat = n + 2 * k by omega]
    · rw [if_neg lt]
      have z : its.size - n = 0 := by rcases hst with e | ⟨e1, e2⟩ <;> omega
      rw [z]
      rfl
  unfold slicePick
  rcases h with ⟨rfl, rfl⟩ | ⟨rfl, rfl⟩
  · exact congrArg List.toArray (key 0 (.inl rfl))
  · refine congrArg List.toArray (key (max 0 (min 1 (its.size : Int))) ?_)
    omega
def tEv (K : PySem.W.Frag) (n : Nat) (te : TE) : TE := fun σ H Q => te σ H fun x H1 => ∃ a xs, x = .ref a ∧ SqL K H1 a xs ∧ ∀ p, H1 p = none → Q (.ref p) (upd H1 p (.lst (evl (xs.drop n))))
section
variable {X : Cx} {K : PySem.W.Frag}
theorem ev_core {e : Expr} {te : TE} {lo : Option Expr} {tl : TO} {k2 : Nat} {p2 p3 pos : Pos} {n : Nat} {l0 : Option Int} (hK : X.K = K) (he : PE X e te) (hl0 : (l0 = none ∧ n = 0) ∨ (l0 = some 1 ∧ n = 1)) (hlo : PO X lo tl) (htl : ∀ σ H, tl σ H fun o H1 => o = l0 ∧ H1 = H)
    (tail : ∀ a b, subscripted (.Slice lo none (some (.Constant (.int 2) k2 p2)) p3) false (.ref a) (.ref b) = operate [.ref a, .ref b] (getItem (.ref a) (.ref b))) : PE X (.Subscript e (.Slice lo none (some (.Constant (.int 2) k2 p2)) p3) pos) (tEv K n te) := by
  subst hK
  refine ⟨fun pins s σ H Q I wish => ?_⟩
  refine Subscript_ (thn (he.run pins s σ H _ I wish) fun v s1 h1 => ?_)
  obtain ⟨x, H1, I1, r1, a, xs, rfl, hx, q⟩ := h1
  cases r1
  refine wpAny_Slice (thn (hlo.run pins s1 σ H1 _ I1 (htl σ H1)) fun vl s2 h2 => ?_)
  obtain ⟨l, H2, I2, pl, rfl, rfl⟩ := h2
  refine thn (po_none.run pins s2 σ H2 (fun o H3 => o = none ∧ H3 = H2) I2 ⟨rfl, rfl⟩) fun vu s3 h3 => ?_
  obtain ⟨u, H3, I3, pu, rfl, rfl⟩ := h3
  have hst : PO X (some (.Constant (.int 2) k2 p2)) (tPart (tC (.int 2))) := po_some pe_int
  refine thn (hst.run pins s3 σ H3 (fun o H4 => o = some 2 ∧ H4 = H3) I3 ⟨2, rfl, rfl, rfl⟩) fun vs s4 h4 => ?_
  obtain ⟨o, H4, I4, pst, rfl, rfl⟩ := h4
  have J : Inv X pins σ H4 { s4 with heap := s4.heap.push { cls := .type "slice", data := .fields #[vl, vu, vs] } } := I4.kept (t' := s4.toks) fun b ob e => Heap.get?_push_of_some _ e
  obtain ⟨its, rv, pl2, hz⟩ := J.list hx
  have lz := rv.length
  refine PyProof.Rows.tail_any (ops := [.ref a, .ref s4.heap.objs.size]) pl2.isList.typeIs PySem.slot_list_getitem.lookup ?_ (tail _ _)
  refine wpAny_getItem_list_slice pl2.isList (Heap.IsSliceOf.new _ vl vu vs) pl pu pst (by decide) ?_ (by rw [List.size_toArray]; omega)
  rw [pick2 _ n l hl0]
  have small := evl_len (xs.drop n)
  rw [List.length_drop] at small
  refine ⟨.ref _, _, J.laid (t' := s4.toks) (o := .lst (evl (xs.drop n))) (fun b ob e => Heap.get?_push_of_some _ e) (Nat.le_refl _) ⟨by omega, _, 0, ?_, Heap.get?_push_size _ rfl⟩, rfl, q _ (J.hok.fresh (Nat.le_refl _))⟩
  have ev : ∀ {ys : List V} {us : List Value}, Vals ys us → Vals (evl ys) (evl us) := fun {ys} => by
    induction ys using evl.induct with
    | case1 => intro us r; cases r; exact .nil
    | case2 x => intro us r; cases r with | cons r rr => cases rr; exact .cons r .nil
    | case3 x y l ih => intro us r; cases r with | cons r rr => cases rr with | cons r2 rr => exact .cons r (ih rr)
  exact ev (rv.drop n)
theorem pe_even {e : Expr} {te : TE} {k2 : Nat} {p2 p3 pos : Pos} (K : PySem.W.Frag) (he : PE X e te) (hK : X.K = K := by rfl) : PE X (.Subscript e (.Slice none none (some (.Constant (.int 2) k2 p2)) p3) pos) (tEv K 0 te) :=
  ev_core hK he (.inl ⟨rfl, rfl⟩) po_none (fun _ _ => ⟨rfl, rfl⟩) fun a b => by with_unfolding_all rfl
theorem pe_odd {e : Expr} {te : TE} {k1 k2 : Nat} {p1 p2 p3 pos : Pos} (K : PySem.W.Frag) (he : PE X e te) (hK : X.K = K := by rfl) : PE X (.Subscript e (.Slice (some (.Constant (.int 1) k1 p1)) none (some (.Constant (.int 2) k2 p2)) p3) pos) (tEv K 1 te) :=
  ev_core hK he (.inr ⟨rfl, rfl⟩) (po_some pe_int) (fun _ _ => ⟨1, rfl, rfl, rfl⟩) fun a b => by with_unfolding_all rfl
end
end DL
end
section
set_option Elab.async false
set_option linter.all false
set_option maxRecDepth 100000
/-! texts; <= of tuples; tests by truth; tables of the module's top -/
namespace DL
open PySem PySem.Spec PyProof.Rows L2
/-! ### texts -/
def rAddS : R2 := fun x y H Q => ∃ i j, x = .str i ∧ y = .str j ∧ i.length + j.length ≤ sizeLine ∧ Q (.str (i ++ j)) H
theorem opAddS {X : Cx} : OpR X (binaryOp .Add) rAddS := op_add_str
def rStrI : List V → Hp → VK → Prop := fun xs H Q => ∃ i, xs = [.int i] ∧ i.natAbs.log2 < 1920 ∧ Q (.str (toString i)) H
theorem callStrI {X : Cx} : CallR X (.type "str") rStrI := call_str_int
def rSplit : V → List V → Hp → VK → Prop := fun x xs H Q => ∃ a b, x = .str a ∧ xs = [.str b] ∧ (b.length == 0) = false ∧ a.length + 2 ≤ sizeLine ∧ rNewStrs (Txt.split a b) H Q
def rJoin (K : PySem.W.Frag) : V → List V → Hp → VK → Prop := fun x xs H Q => ∃ a p, ∃ ys : List Str, x = .str a ∧ xs = [.ref p] ∧ (SqL K H p (ys.map V.str) ∨ SqT K H p (ys.map V.str)) ∧
  (ys.map (·.length)).sum + ys.length * a.length ≤ 16777216 ∧ Q (.str (Txt.join a ys)) H
section
variable {X : Cx} {o e : Expr} {to te : TE}
theorem peSplit {apos pos : Pos} (ho : PE X o to) (he : PE X e te) (hs : starEach [e] X.env = [(false, eval e X.env)] := by rfl) (hbase : attributeBase o "split" X.env (eval o X.env) = eval o X.env := by rfl) (hline : (apos.endLine == pos.line) = true := by rfl) :
    PE X (.Call (.Attribute o "split" apos) [e] [] pos) (tM1 rSplit to te) := pe_split ho he hs hbase hline
theorem peJoin {apos pos : Pos} (K : PySem.W.Frag) (ho : PE X o to) (he : PE X e te) (hK : X.K = K := by rfl) (hs : starEach [e] X.env = [(false, eval e X.env)] := by rfl) (hbase : attributeBase o "join" X.env (eval o X.env) = eval o X.env := by rfl) (hline : (apos.endLine == pos.line) = true := by rfl) :
    PE X (.Call (.Attribute o "join" apos) [e] [] pos) (tM1 (rJoin K) to te) := hK ▸ pe_join ho he hs hbase hline
end
section
variable {K : PySem.W.Frag} {ss : Sl} {mem m1 m2 : List Mc} {te ta tb to : TE} {x y : Str} {i : Int} {d : D} {ds : List D}
theorem dt_addS (ha : DT K ta ss mem (.dat (.str x)) m1) (hb : DT K tb ss m1 (.dat (.str y)) m2) (hl : x.length + y.length ≤ 16777216) : DT K (tOp rAddS ta tb) ss mem (.dat (.str (x ++ y))) m2 :=
  dt_op ha hb fun B H al σ v w Q S hv hw k => by
    cases hv
    cases hw
    exact ⟨x, y, rfl, rfl, by rw [sizeLine_eq]; exact hl, k _ _ _ _ (Stp.refl _ _ _) S (.str _)⟩
theorem dt_strI (h : DT K te ss mem (.dat (.int i)) m1) (hi : i.natAbs.log2 < 1920) : DT K (tCB rStrI (tCons te tNil)) ss mem (.dat (.str (toString i))) m1 := fun B H al σ Q S k =>
  h B H al σ _ S fun _ _ _ _ P1 S1 r1 => by
    cases r1
    exact ⟨i, rfl, hi, k _ _ _ _ P1 S1 (.str _)⟩
theorem reps_strs {B : Hp} : ∀ {ys : List Str} {vs : List V}, RepAll K B vs (ys.map D.str) → vs = ys.map V.str
  | [], _, h => by cases h; rfl
  | y :: ys, _, h => by
    cases h with
    | cons h1 h2 =>
      cases h1
      rw [reps_strs h2]
      rfl
theorem dt_split (ho : DT K to ss mem (.dat (.str x)) m1) (he : DT K te ss m1 (.dat (.str y)) m2) (hy : (y.length == 0) = false) (hx : x.length ≤ 16777000) : DT K (tM1 rSplit to te) ss mem (.dat (.lst ((Txt.split x y).map D.str))) m2 := fun B H al σ Q S k =>
  ho B H al σ _ S fun B1 H1 al1 v P1 S1 r1 => by
    cases r1
    refine ⟨⟨x, rfl⟩, he B1 H1 al1 σ _ S1 fun B2 H2 al2 w P2 S2 r2 => ?_⟩
    cases r2
    refine ⟨x, y, rfl, rfl, hy, by rw [sizeLine_eq]; omega, fun p np => ?_⟩
    obtain ⟨P3, S3⟩ := S2.lay (o := .lst ((Txt.split x y).map V.str)) np
    exact k _ _ _ _ ((P1.trans P2).trans P3) S3 (.lst (SqL.of upd_same) (reps_str _))
theorem dt_join {ys : List Str} (ho : DT K to ss mem (.dat (.str x)) m1) (he : DT K te ss m1 (.dat (.lst (ys.map D.str))) m2) (hl : (ys.map (·.length)).sum + ys.length * x.length ≤ 16777216) : DT K (tM1 (rJoin K) to te) ss mem (.dat (.str (Txt.join x ys))) m2 := fun B H al σ Q S k =>
  ho B H al σ _ S fun B1 H1 al1 v P1 S1 r1 => by
    cases r1
    refine ⟨⟨x, rfl⟩, he B1 H1 al1 σ _ S1 fun B2 H2 al2 w P2 S2 r2 => ?_⟩
    cases r2 with
    | lst s r =>
      cases reps_strs r
      exact ⟨x, _, ys, rfl, rfl, .inl (S2.seqL s), hl, k _ _ _ _ (P1.trans P2) S2 (.str _)⟩
theorem dt_joinO {ys : List Str} {n : Nat} (ho : DT K to ss mem (.dat (.str x)) m1) (he : DT K te ss m1 (.own n) m2) (hm : m2[n]? = some (.lst (ys.map D.str))) (hl : (ys.map (·.length)).sum + ys.length * x.length ≤ 16777216) : DT K (tM1 (rJoin K) to te) ss mem (.dat (.str (Txt.join x ys))) m2 := fun B H al σ Q S k =>
  ho B H al σ _ S fun B1 H1 al1 v P1 S1 r1 => by
    cases r1
    refine ⟨⟨x, rfl⟩, he B1 H1 al1 σ _ S1 fun B2 H2 al2 w P2 S2 r2 => ?_⟩
    obtain ⟨a, a1, rfl⟩ := r2
    obtain ⟨_, xs, x1, x2⟩ := S2.mem n a _ a1 hm
    cases reps_strs x2
    exact ⟨x, a, ys, rfl, rfl, .inl (SqL.of x1), hl, k _ _ _ _ (P1.trans P2) S2 (.str _)⟩
/-! f-strings -/
theorem dt_fmtS (h : DT K te ss mem (.dat (.str x)) m1) (hx : x.length ≤ 16777216) : DT K (tFmt te) ss mem (.dat (.str x)) m1 := fun B H al σ Q S k =>
  h B H al σ _ S fun _ _ _ _ P1 S1 r1 => by
    cases r1
    exact .inl ⟨x, rfl, by rw [sizeLine_eq]; exact hx, k _ _ _ _ P1 S1 (.str _)⟩
theorem dt_fmtI (h : DT K te ss mem (.dat (.int i)) m1) (hi : i.natAbs.log2 < 1920) : DT K (tFmt te) ss mem (.dat (.str (toString i))) m1 := fun B H al σ Q S k =>
  h B H al σ _ S fun _ _ _ _ P1 S1 r1 => by
    cases r1
    exact .inr ⟨i, rfl, hi, k _ _ _ _ P1 S1 (.str _)⟩
def tFs (ts : List TE) : TE := fun σ H Q => tJs ts Str.empty σ H fun out H1 => Q (.str out) H1
theorem peFs {X : Cx} {v1 v2 : Expr} {rest : List Expr} {ts : List TE} {pos : Pos} (h : PJ X (v1 :: v2 :: rest) ts) : PE X (.JoinedStr (v1 :: v2 :: rest) pos) (tFs ts) := pe_joined h
theorem dt_fs3 {m3 : List Mc} {z : Str} (ha : DT K ta ss mem (.dat (.str x)) m1) (hb : DT K tb ss m1 (.dat (.str y)) m2) (hc : DT K te ss m2 (.dat (.str z)) m3) (hl : (Str.empty ++ x ++ y ++ z).length ≤ 16777216) (hl2 : (Str.empty ++ x ++ y).length ≤ 16777216) (hl1 : (Str.empty ++ x).length ≤ 16777216) :
    DT K (tFs [ta, tb, te]) ss mem (.dat (.str (Str.empty ++ x ++ y ++ z))) m3 := fun B H al σ Q S k =>
  ha B H al σ _ S fun B1 H1 al1 v P1 S1 r1 => by
    cases r1
    refine ⟨x, rfl, by rw [sizeLine_eq]; exact hl1, hb B1 H1 al1 σ _ S1 fun B2 H2 al2 w P2 S2 r2 => ?_⟩
    cases r2
    refine ⟨y, rfl, by rw [sizeLine_eq]; exact hl2, hc B2 H2 al2 σ _ S2 fun B3 H3 al3 u P3 S3 r3 => ?_⟩
    cases r3
    exact ⟨z, rfl, by rw [sizeLine_eq]; exact hl, k _ _ _ _ ((P1.trans P2).trans P3) S3 (.str _)⟩
/-! every second item -/
theorem dt_ev {n : Nat} (h : DT K te ss mem (.dat (.lst ds)) m1) : DT K (tEv K n te) ss mem (.dat (.lst (evl (ds.drop n)))) m1 := fun B H al σ Q S k =>
  h B H al σ _ S fun B1 H1 al1 v P1 S1 r1 => by
    cases r1 with
    | @lst a xs _ s r =>
      refine ⟨a, xs, rfl, S1.seqL s, fun p np => ?_⟩
      obtain ⟨P3, S3⟩ := S1.lay (o := .lst (evl (xs.drop n))) np
      have ev : ∀ {es : List D} {ys : List V}, RepAll K B1 ys es → RepAll K B1 (evl ys) (evl es) := fun {es} => by
        induction es using evl.induct with
        | case1 => intro ys r; cases r; exact .nil
        | case2 x => intro ys r; cases r with | cons r rr => cases rr; exact .cons r .nil
        | case3 x y l ih => intro ys r; cases r with | cons r rr => cases rr with | cons r2 rr => exact .cons r (ih rr)
      exact k _ _ _ _ (P1.trans P3) S3 (.lst (SqL.of upd_same) (RepAll.mono P3.same _ (ev (RepAll.drop n r))))
/-! tests by truth -/
theorem db_truT (h : DT K te ss mem (.dat (.tup ds)) m1) : DB K (tTruL K te) ss mem (!ds.isEmpty) m1 := fun B H al σ Q S k =>
  h B H al σ _ S fun B1 H1 al1 v P1 S1 r1 => by
    cases r1 with
    | @tup a xs _ s r =>
      refine ⟨!ds.isEmpty, .inr (.inl ⟨xs, S1.seqT (SqT.of s), ?_⟩), k _ _ _ P1 S1⟩
      cases r <;> rfl
theorem db_truS (h : DT K te ss mem (.dat (.str x)) m1) (hx : x.length ≤ 16777216) : DB K (tTruL K te) ss mem ((x.length : Int) != 0) m1 := fun B H al σ Q S k =>
  h B H al σ _ S fun B1 H1 al1 v P1 S1 r1 => by
    cases r1
    exact ⟨_, ⟨by rw [sizeLine_eq]; exact hx, rfl⟩, k _ _ _ P1 S1⟩
/-! != of texts -/
theorem dt_neS (ha : DT K ta ss mem (.dat (.str x)) m1) (hb : DT K tb ss m1 (.dat (.str y)) m2) : DT K (tOp rNe ta tb) ss mem (.dat (.bl (!decide (x = y)))) m2 :=
  dt_op ha hb fun B H al σ v w Q S hv hw k => by
    cases hv
    cases hw
    refine ⟨rfl, k _ _ _ _ (Stp.refl _ _ _) S ?_⟩
    have e : decide (V.str x = V.str y) = decide (x = y) := by simp
    rw [e]
    exact .bl _
end
end DL
namespace DL
open PySem PySem.Spec PyProof.Rows L2
/-! ### <= of tuples of ints -/
def leI (ns ms : List Int) : Bool := SeqAt.firstLt (fun j => ns.getD j 0 == ms.getD j 0) (fun j => decide (ns.getD j 0 ≤ ms.getD j 0)) (decide (ns.length ≤ ms.length)) (List.range (min ns.length ms.length))
def rLeT (K : PySem.W.Frag) : R2 := fun x y H Q => ∃ a b ns ms, x = .ref a ∧ y = .ref b ∧ SqT K H a (ns.map V.int) ∧ SqT K H b (ms.map V.int) ∧ Q (.bl (leI ns ms)) H
theorem ints_at {ns : List Int} {its : List Value} (r : Vals (ns.map V.int) its) {j : Nat} (h : j < its.toArray.size) : ∃ t, its.toArray[j] = .int (ns.getD j 0) t := by
  have len := r.length
  rw [List.length_map] at len
  have hj : j < ns.length := by rw [len]; simpa using h
  obtain ⟨u, e, t, ht⟩ := r.get (i := j) (x := .int (ns.getD j 0)) (by rw [List.getElem?_map, List.getElem?_eq_getElem hj, List.getD_eq_getElem?_getD, List.getElem?_eq_getElem hj]; rfl)
  refine ⟨t, ?_⟩
  rw [← ht, ← Option.some.injEq, ← e]
  simp
theorem opLeT {X : Cx} (K : PySem.W.Frag) (hu : X.A.units < cLine) (hK : X.K = K := by rfl) : OpR X (compareOp .LtE) (rLeT K) := by
  subst hK
  intro pins s σ H x y v u Q I rx ry wish
  obtain ⟨a, b, ns, ms, rfl, rfl, ha, hb, q⟩ := wish
  cases rx
  cases ry
  obtain ⟨is, r1, p1, -⟩ := I.tuple ha
  obtain ⟨js, r2, p2, -⟩ := I.tuple hb
  have l1 := r1.length
  have l2 := r2.length
  rw [List.length_map] at l1 l2
  have key := SeqAt.RcOp.tuples_le (A := X.A) (e := fun j => ns.getD j 0 == ms.getD j 0) (r := fun j => decide (ns.getD j 0 ≤ ms.getD j 0)) p1 p2 hu
    (fun j h1 h2 => by
      obtain ⟨t, e1⟩ := ints_at r1 h1
      obtain ⟨t', e2⟩ := ints_at r2 h2
      rw [e1, e2]
      exact SeqAt.EqAt.int_int _ _ _ _)
    (fun j h1 h2 _ => by
      obtain ⟨t, e1⟩ := ints_at r1 h1
      obtain ⟨t', e2⟩ := ints_at r2 h2
      rw [e1, e2]
      exact fun prog w E Q q => le_int q)
  rw [List.size_toArray, List.size_toArray, ← l1, ← l2] at key
  exact key X.prog X.w _ _ ⟨.bl (leI ns ms), H, I, rfl, q⟩
section
variable {K : PySem.W.Frag} {ss : Sl} {mem m1 m2 : List Mc} {ta tb te tx : TE} {d e : D}
theorem dt_leT {ns ms : List Int} (ha : DT K ta ss mem (.dat (rowD ns)) m1) (hb : DT K tb ss m1 (.dat (rowD ms)) m2) : DT K (tOp (rLeT K) ta tb) ss mem (.dat (.bl (leI ns ms))) m2 :=
  dt_op ha hb fun B H al σ v w Q S hv hw k => by
    cases hv with
    | tup s1 r1 =>
      cases hw with
      | tup s2 r2 =>
        cases r1.ints
        cases r2.ints
        exact ⟨_, _, ns, ms, rfl, rfl, SqT.of (S.sub _ _ s1), SqT.of (S.sub _ _ s2), k _ _ _ _ (Stp.refl _ _ _) S (.bl _)⟩
/-! ### a table of the module's top: d.get(k, x) -/
def tKGet (K : PySem.W.Frag) (a : Addr) (ty tx : TE) : TE := fun σ H Q => ty σ H fun y H1 => ∃ z, y = .str z ∧ tx σ H1 fun v H2 => ∃ r, PySem.W.nsIn K a z = some r ∧ ((r = none ∧ Q v H2) ∨ ∃ u v0, r = some u ∧ RelV v0 u ∧ Q v0 H2)
theorem peKGet {X : Cx} {o e f : Expr} {apos cpos : Pos} {a : Addr} {es : Array DictEntry} {n : Nat} {ty tx : TE} (K : PySem.W.Frag) (w : World) (ho : PE X o (tC (.ref a))) (KD : KDict K w a es n) (he : PE X e ty) (hf : PE X f tx) (m : M2 X o "get" apos e f cpos) (hK : X.K = K := by rfl) (hw : X.w = w := by rfl) :
    PE X (.Call (.Attribute o "get" apos) [e, f] [] cpos) (tKGet K a ty tx) := by
  subst hK hw
  refine ⟨fun pins s σ H Q I wish => ?_⟩
  refine wpAny_Call_method m.base m.few m.line PySem.F.plainAttrs_dict PySem.F.slot_dict_get PySem.F.type_dict_get (thn (ho.run pins s σ H (fun v H1 => v = .ref a ∧ H1 = H) I ⟨rfl, rfl⟩) fun u s1 h1 => ?_)
  obtain ⟨x, H1, I1, rx, rfl, rfl⟩ := h1
  cases rx
  have mp := PySem.W.mapOf_K (prog := X.prog) (w := X.w) I1.kIn KD.at_ KD.lit
  refine ⟨mp.typeIs, (fun c z => ?_), ?_⟩
  · cases z
    exact ⟨_, I1.kIn _ _ KD.at_, rfl⟩
  rw [m.trees]
  refine Calls.callWith_builtin rfl (Calls.evalArgs_plain (Calls.spliced_cons (thn (he.run pins s1 σ H1 _ I1 wish) fun iv s2 h2 => ?_)))
  obtain ⟨y, H2, I2, ry, z, rfl, wish2⟩ := h2
  refine Calls.spliced_cons (thn (hf.run pins s2 σ H2 _ I2 wish2) fun fv s3 h3 => Calls.spliced_nil ?_)
  obtain ⟨v, H3, I3, rz, r, hr, q⟩ := h3
  obtain ⟨t, rfl⟩ := ry
  have mp3 := PySem.W.mapOf_K (prog := X.prog) (w := X.w) I3.kIn KD.at_ KD.lit
  refine call_meetsIn PySem.F.slot_dict_get mp3.typeIs PySem.F.entry_dict_get (PySem.F.args_dict_get_3 _ _ _) (meets_dict_get_default (PySem.strKind X.prog X.w) a (PySem.strKind_is X.prog X.w z t) KD.low fv) ⟨_, mp3, ?_⟩
  rw [PySem.W.find_K KD.at_ hr]
  rcases q with ⟨rfl, q⟩ | ⟨u, v0, rfl, r0, q⟩
  · exact ⟨v, H3, I3.tok _, rz, q⟩
  · exact ⟨v0, H3, I3.tok _, r0, q⟩
end
end DL
end
section
set_option Elab.async false
set_option linter.all false
set_option maxRecDepth 100000
/-! said of data: *xs, y = list; table.get; zip of a constant tuple; != of tuples of texts -/
namespace DL
open PySem PySem.Spec PyProof.Rows L2
section
variable {K : PySem.W.Frag} {ss : Sl} {mem m1 m2 : List Mc} {ta tb te tx : TE} {d e : D} {ds es : List D}
theorem ds_star {i j : Nat} (h : DT K te ss mem (.dat (.lst (ds ++ [d]))) m1) (few : ds.length ≤ 16000) : DS K (tAsg te (gStarL K (gName i) (gName j))) ss mem (.nx ((ss.set i (some (.dat (.lst ds)))).set j (some (.dat d))) m1) := fun B H al σ Dn S k =>
  h B H al σ _ S fun B1 H1 al1 v P1 S1 r1 => by
    cases r1 with
    | @lst a xs _ s r =>
      have ln := r.len
      rw [List.length_append, List.length_singleton] at ln
      obtain ⟨w, e1, e2⟩ := r.get (i := ds.length) (d := d) (by simp)
      have t := r.take ds.length
      rw [List.take_left] at t
      have sp : xs = xs.take ds.length ++ [w] := by
        have z := List.take_append_drop ds.length xs
        have z2 : xs.drop ds.length = [w] := by
          refine List.ext_getElem? fun n => ?_
          rw [List.getElem?_drop]
          match n with
          | 0 => exact e1
          | n + 1 => rw [List.getElem?_eq_none (by omega)]; rfl
        rw [z2] at z
        exact z.symm
      have tl : (xs.take ds.length).length = ds.length := by rw [List.length_take]; omega
      refine ⟨a, xs.take ds.length, w, rfl, by rw [← sp]; exact S1.seqL s, by rw [tl]; exact few, fun p np => ?_⟩
      obtain ⟨P2, S2⟩ := S1.lay (o := .lst (xs.take ds.length)) np
      refine k _ _ _ (P1.trans P2) _ ((S2.put (i := i) (v := .ref p) (r := some (.dat (.lst ds))) fun q z => ?_).put (i := j) (v := w) (r := some (.dat d)) fun q z => ?_)
      · cases z
        exact .lst (SqL.of upd_same) (RepAll.mono P2.same _ t)
      · cases z
        exact Rep.mono P2.same _ e2
theorem dt_kget {a : Addr} {z : Str} {u : Value} {i : Int} (hy : DT K ta ss mem (.dat (.str z)) m1) (hx : DT K tb ss m1 (.dat e) m2) (hn : PySem.W.nsIn K a z = some (some u)) (hr : RelV (.int i) u) : DT K (tKGet K a ta tb) ss mem (.dat (.int i)) m2 := fun B H al σ Q S k =>
  hy B H al σ _ S fun B1 H1 al1 v P1 S1 r1 => by
    cases r1
    exact ⟨z, rfl, hx B1 H1 al1 σ _ S1 fun B2 H2 al2 w P2 S2 r2 => ⟨_, hn, .inr ⟨u, .int i, rfl, hr, k _ _ _ _ (P1.trans P2) S2 (.int i)⟩⟩⟩
theorem di_zipCT {t : TA} (h : DA K t ss mem [.ctp ds, .tup es] m1) (hl : ds.length = es.length) : DI K (RZ.iZipA K t) ss mem ds.length (fun i => .tup [nthD ds i, nthD es i]) m1 := fun B H al σ R S k =>
  h B H al σ _ S fun B1 H1 al1 vs P1 S1 r1 => by
    obtain ⟨v, w, rfl, q1, q2⟩ := two_data r1
    cases q1 with
    | @ctp a xs _ sa ra =>
      cases q2 with
      | @tup b ys _ sb rb =>
        have sb : SqT K B1 b ys := SqT.of sb
        refine ⟨a, b, xs, ys, rfl, .inr ⟨S1.seqT sa, S1.seqT sb, k _ _ _ _ P1 S1 fun B2 H2 al2 σ2 ss2 mem2 grown S2 => ?_⟩⟩
        have ta := S2.seqT (sameT grown sa)
        have tb := S2.seqT (sameT grown sb)
        refine ⟨fun i hi => ?_, fun i hi => ⟨xs, ys, ta, tb, .inl (by rw [ra.len]; exact hi)⟩⟩
        obtain ⟨p, p1, p2⟩ := ra.get (nthD_get hi)
        obtain ⟨q, q1, q2⟩ := rb.get (nthD_get (show i < es.length by omega))
        refine ⟨⟨xs, ys, p, q, ta, tb, p1, q1⟩, fun x H' y => ?_⟩
        obtain ⟨T, x', y', rfl, nT, rfl, f, g⟩ := y
        cases p1.symm.trans (f xs ta)
        cases q1.symm.trans (g ys tb)
        exact S2.layPair nT (Rep.mono grown _ p2) (Rep.mono grown _ q2)
/-- a tuple of texts beside a constant one -/
theorem dp_strs {H : Hp} : ∀ {ys : List Str}, DpAll K H (ys.map V.str) (D.pyAll (ys.map D.str))
  | [] => by
    simp only [List.map_nil, D.pyAll]
    exact .nil
  | y :: ys => by
    simp only [List.map_cons, D.pyAll, D.py]
    exact .cons (.str y) dp_strs
theorem dt_neTC {xs ys : List Str} (ha : DT K ta ss mem (.dat (.tup (xs.map .str))) m1) (hb : DT K tb ss m1 (.dat (.ctp (ys.map .str))) m2) (h1 : SeqAt.shaped (.tuple (D.pyAll (xs.map D.str))) = true) (h2 : SeqAt.shaped (.tuple (D.pyAll (ys.map D.str))) = true) :
    DT K (tOp (rNeD K) ta tb) ss mem (.dat (.bl (!PyData.eqv (.tuple (D.pyAll (xs.map D.str))) (.tuple (D.pyAll (ys.map D.str)))))) m2 :=
  dt_op ha hb fun B H al σ v w Q S hv hw k => by
    cases hv with
    | @tup a vs _ s1 r1 =>
      cases hw with
      | @ctp b us _ s2 r2 =>
        cases reps_strs r1
        cases reps_strs r2
        exact ⟨_, _, .tup (SqT.of (S.sub _ _ s1)) dp_strs, .tup (S.seqT s2) dp_strs, h1, h2, k _ _ _ _ (Stp.refl _ _ _) S (.bl _)⟩
end
end DL
end
section
set_option Elab.async false
set_option linter.all false
set_option maxRecDepth 100000
/-! zip of a list and a tuple -/
namespace DL
open PySem PySem.Spec PyProof.Rows L2
/-- the list at a and the tuple at b, n items each, hand in hand -/
def PrLT (K : PySem.W.Frag) (a b : Addr) (n : Nat) : It where
  go i H := i < n ∧ ∃ xs ys, (SqL K H a xs ∧ xs.length = n) ∧ SqT K H b ys ∧ ys.length = n
  yld i H v H' := ∃ T l r, v = .ref T ∧ H T = none ∧ H' = upd H T (.tup [l, r]) ∧ (∀ zs, SqL K H a zs → zs[i]? = some l) ∧ ∀ zs, SqT K H b zs → zs[i]? = some r
  stop i H := n ≤ i ∧ ∃ xs ys, (SqL K H a xs ∧ xs.length = n) ∧ SqT K H b ys ∧ ys.length = n
theorem turnPrLT {P : Program} {w : World} {K : PySem.W.Frag} {elts : List Expr} {kk : Nat} {tpos : Pos} {a b z TI TO i1 i2 : Addr} {n : Nat} (Z : ZipSep2 z TI TO i1 i2 [i1, a] [i2, b]) (ai : a ≠ i1) (bi : b ≠ i2) :
    Turn P w K (.Tuple elts kk tpos) (PrLT K a b n) [z, TI, TO, i1, i2] z fun i h => i ≤ n ∧ IsZip h z TI TO .none ∧ IsTupOf2 h TI (.ref i1) (.ref i2) ∧ (∃ p q, IsTupOf2 h TO p q) ∧ h.IsListIter i1 a i ∧ h.IsTupleIter i2 b i where
  mem := List.mem_cons_self
  obj i h st c hc := by
    obtain ⟨-, s1, s2, ⟨p, q, s3⟩, ⟨_, g1, -, c1⟩, _, g2, -, c2⟩ := st
    simp only [List.mem_cons, List.not_mem_nil, or_false] at hc
    rcases hc with rfl | rfl | rfl | rfl | rfl
    · exact ⟨_, s1, fun _ y => nomatch y⟩
    · exact ⟨_, s2, fun _ y => nomatch y⟩
    · exact ⟨_, s3, fun _ y => nomatch y⟩
    · exact ⟨_, g1, fun _ y => by rw [c1] at y; cases y⟩
    · exact ⟨_, g2, fun _ y => by rw [c2] at y; cases y⟩
  keep i h h' st k := ⟨st.1, k z (by simp) _ st.2.1, k TI (by simp) _ st.2.2.1, let ⟨p, q, y⟩ := st.2.2.2.1; ⟨p, q, k TO (by simp) _ y⟩, st.2.2.2.2.1.at (k i1 (by simp)), st.2.2.2.2.2.at (k i2 (by simp))⟩
  self A i s Q E st k := wpAny_pyIter_zip st.2.1 k
  item := by
    rintro X rfl rfl rfl calm i pins s σ H E I free ⟨-, s1, s2, s3, g1, g2⟩ ⟨lt, xs, ys, ⟨sa, na⟩, sb, nb⟩
    obtain ⟨us, relu, pl, -⟩ := I.list sa
    obtain ⟨ws, relw, tup, -⟩ := I.tuple sb
    have hh : X.A.in1.handled = none := I.ok.hd calm
    have W := WalksT.zipD2 Z (Draws.list (prog := X.prog) (w := X.w) (A := X.A.in1) hh i1 a ai us.toArray) (Draws.tuple (prog := X.prog) (w := X.w) (A := X.A.in1) hh i2 b bi ws.toArray)
    have lu := relu.length
    have lw := relw.length
    obtain ⟨u, eu, ru⟩ := relu.get (List.getElem?_eq_getElem (show i < xs.length by omega))
    obtain ⟨v, ev, rv⟩ := relw.get (List.getElem?_eq_getElem (show i < ys.length by omega))
    refine W.item i s _ _ (by rw [List.size_toArray, List.size_toArray]; omega) ⟨s1, s2, s3, ⟨g1, pl.isList⟩, g2, tup⟩ fun T vals h1 tk ⟨u', v', hu, hv, he⟩ new hT mid k1 => ⟨_, rfl, W.go elts kk tpos i T _ _ _ mid fun h2 ⟨t1, t2, t3, t4, t5⟩ k2 => ?_⟩
    have hu : us[i]? = some u' := by simpa using hu
    have hv : ws[i]? = some v' := by simpa using hv
    cases eu.symm.trans hu
    cases ev.symm.trans hv
    have nT : T ∉ [z, TO, i1, i2] := W.apart i T _ mid
    obtain ⟨oT, gT, cT, nn, dT⟩ := hT
    have pair : ObjOk X.prog X.w (upd H T (.tup [xs[i], ys[i]])) h2 T (.tup [xs[i], ys[i]]) :=
      ⟨by rw [sizeLine_eq]; show 2 ≤ 16777216; omega, [u, v], .cons ru (.cons rv .nil), oT, k2 T oT nT gT, cT, nn, by rw [dT, he]⟩
    have onlyL : ∀ zs, SqL X.K H a zs → zs[i]? = some xs[i] := fun zs hy => by
      cases I.list_inj sa hy
      exact List.getElem?_eq_getElem _
    have onlyT : ∀ zs, SqT X.K H b zs → zs[i]? = some ys[i] := fun zs hy => by
      cases I.tuple_inj sb hy
      exact List.getElem?_eq_getElem _
    have inch : ∀ {c : Addr}, c ∉ [z, TI, TO, i1, i2] → c ∉ [z, TO, i1, i2] := fun hc y => hc (by simp only [List.mem_cons, List.not_mem_nil, or_false] at y ⊢; rcases y with y | y | y | y <;> simp [y])
    refine ⟨.ref T, _, I.turnedNew (t' := tk) (fun c o nc g => k2 c o (inch nc) (k1 c o (inch nc) g)) free new pair, rfl, ⟨T, _, _, rfl, I.hok.fresh new, rfl, onlyL, onlyT⟩, ⟨lt, t1, t2, t3, t4.1, t5.1⟩, fun c hc => ?_⟩
    have cT : c ≠ T := fun y => by
      have old : ∃ o, s.heap.get? c = some o := by
        obtain ⟨o1, q1, -⟩ := g1
        obtain ⟨o2, q2, -⟩ := g2
        obtain ⟨_, _, q3⟩ := s3
        simp only [List.mem_cons, List.not_mem_nil, or_false] at hc
        rcases hc with e | e | e | e | e
        · exact ⟨_, e ▸ s1⟩
        · exact ⟨_, e ▸ s2⟩
        · exact ⟨_, e ▸ q3⟩
        · exact ⟨_, e ▸ q1⟩
        · exact ⟨_, e ▸ q2⟩
      obtain ⟨o, ho⟩ := old
      exact Nat.lt_irrefl _ (Nat.lt_of_lt_of_le (Heap.lt_size ho) (y ▸ new))
    exact (upd_ne cT).trans (free c hc).1
  done := by
    rintro X rfl rfl rfl calm i pins s σ H E I free ⟨le, s1, s2, s3, g1, g2⟩ ⟨ge, xs, ys, ⟨sa, na⟩, sb, nb⟩
    obtain ⟨us, relu, pl, -⟩ := I.list sa
    obtain ⟨ws, relw, tup, -⟩ := I.tuple sb
    have hh : X.A.in1.handled = none := I.ok.hd calm
    have W := WalksT.zipD2 Z (Draws.list (prog := X.prog) (w := X.w) (A := X.A.in1) hh i1 a ai us.toArray) (Draws.tuple (prog := X.prog) (w := X.w) (A := X.A.in1) hh i2 b bi ws.toArray)
    have lu := relu.length
    have lw := relw.length
    have len : i = min us.toArray.size ws.toArray.size := by rw [List.size_toArray, List.size_toArray]; omega
    subst len
    have inch : ∀ {c : Addr}, c ∉ [z, TI, TO, i1, i2] → c ∉ [z, TO, i1, i2] := fun hc y => hc (by simp only [List.mem_cons, List.not_mem_nil, or_false] at y ⊢; rcases y with y | y | y | y <;> simp [y])
    exact W.done s _ _ ⟨s1, s2, s3, ⟨g1, pl.isList⟩, g2, tup⟩ fun h1 tk k1 => ⟨rfl, I.turnedL (fun c o nc g => k1 c o (inch nc) g) free⟩
def iZipLT (K : PySem.W.Frag) (ta : TA) : TI := fun σ H R => ta σ H fun vs H1 => ∃ a b xs ys, vs = [.ref a, .ref b] ∧ SqL K H1 a xs ∧ SqT K H1 b ys ∧ xs.length = ys.length ∧ R (PrLT K a b xs.length) H1
theorem piZipLT {X : Cx} {e e2 : Expr} {ta : TA} {p pos tpos : Pos} {elts : List Expr} {kk : Nat} (K : PySem.W.Frag) (hg : Gl X "zip") (hm : X.mg "zip" = none) (ha : PA X [e, e2] ta) (hK : X.K = K := by rfl)
    (plain1 : starEach [e, e2] X.env = (false, eval e X.env) :: starEach [e2] X.env := by rfl)
    (plain2 : (backTo pos (starEach [e2] X.env)).any (·.1) = false := by rfl) : PI X (.Tuple elts kk tpos) (.Call (.Name "zip" p) [e, e2] [] pos) (iZipLT K ta) := hK ▸ ⟨fun pins s σ H R I wish => by
  refine Call_ (ld_blt I hg hm PyProof.Rows.boot_zip (PyProof.Rows.callWith_type1 (thn (ha.run pos pins s σ H _ I wish) fun us s1 came => ?_) plain1 plain2))
  obtain ⟨vs, H1, I1, rel, a, b, xs, ys, rfl, sa, sb, len, k⟩ := came
  cases rel with | cons p1 q => ?_
  cases q with | cons p2 q => ?_
  cases q
  cases p1
  cases p2
  obtain ⟨its, -, pl, -⟩ := I1.list sa
  obtain ⟨its2, -, tup, -⟩ := I1.tuple sb
  have la : a < s1.heap.objs.size := pl.isList.elim fun o y => Heap.lt_size y.1
  have lb : b < s1.heap.objs.size := let ⟨_, g, _⟩ := tup; Heap.lt_size g
  refine zip_begins2 (begins_list a its.toArray) (begins_tuple b its2.toArray) pl.isList tup fun h' hz hTI hTO q1 q2 hsz old => wpAny_pyIter_zip hz ?_
  refine ⟨_, [s1.heap.objs.size + 4, s1.heap.objs.size + 2, s1.heap.objs.size + 3, s1.heap.objs.size, s1.heap.objs.size + 1], _, _, H1, rfl, I1.kept (t' := s1.toks) old,
    turnPrLT (zip_sep2 (fp1 := [a]) (fp2 := [b]) (fun c hc => by rw [List.mem_singleton.mp hc]; exact la) (fun c hc => by rw [List.mem_singleton.mp hc]; exact lb)) (Nat.ne_of_lt la) (Nat.ne_of_lt (Nat.lt_succ_of_lt lb)),
    ⟨Nat.zero_le _, hz, hTI, ⟨_, _, hTO⟩, ⟨_, q1, rfl, rfl⟩, ⟨_, q2, rfl, rfl⟩⟩, fun c hc => ?_, k⟩
  have ge : s1.heap.objs.size ≤ c := by
    simp only [List.mem_cons, List.not_mem_nil, or_false] at hc
    rcases hc with e | e | e | e | e <;> rw [e] <;> simp
  exact I1.fpOk ge (I1.hok.fresh ge)⟩
section
variable {K : PySem.W.Frag} {ss : Sl} {mem m1 : List Mc}
theorem di_zipLT {ds es : List D} {t : TA} (h : DA K t ss mem [.lst ds, .tup es] m1) (hl : ds.length = es.length) : DI K (iZipLT K t) ss mem ds.length (fun i => .tup [nthD ds i, nthD es i]) m1 := fun B H al σ R S k =>
  h B H al σ _ S fun B1 H1 al1 vs P1 S1 r1 => by
    obtain ⟨v, w, rfl, q1, q2⟩ := two_data r1
    cases q1 with
    | @lst a xs _ sa ra =>
      cases q2 with
      | @tup b ys _ sb rb =>
        have sb : SqT K B1 b ys := SqT.of sb
        have lx : xs.length = ys.length := by rw [ra.len, rb.len]; exact hl
        refine ⟨a, b, xs, ys, rfl, S1.seqL sa, S1.seqT sb, lx, k _ _ _ _ P1 S1 fun B2 H2 al2 σ2 ss2 mem2 grown S2 => ?_⟩
        have ta := S2.seqL (grown.seq sa)
        have tb := S2.seqT (sameT grown sb)
        refine ⟨fun i hi => ⟨⟨by rw [ra.len]; exact hi, xs, ys, ⟨ta, rfl⟩, tb, lx.symm⟩, fun x H' y => ?_⟩, fun i hi => ⟨by rw [ra.len]; exact hi, xs, ys, ⟨ta, rfl⟩, tb, lx.symm⟩⟩
        obtain ⟨p, p1, p2⟩ := ra.get (nthD_get hi)
        obtain ⟨q, q1, q2⟩ := rb.get (nthD_get (show i < es.length by omega))
        obtain ⟨T, x', y', rfl, nT, rfl, f, g⟩ := y
        cases p1.symm.trans (f xs ta)
        cases q1.symm.trans (g ys tb)
        exact S2.layPair nT (Rep.mono grown _ p2) (Rep.mono grown _ q2)
end
end DL
end
section
set_option Elab.async false
set_option linter.all false
set_option maxRecDepth 100000
set_option maxHeartbeats 4000000
namespace K34
open PySem PySem.Spec PyProof.Rows L2 DL
def topS (i : Nat) : Stmt := PySem.Challenge.pw_coolway_k34_whole_texts.main.body.getD i (.Pass ⟨0, 0, 0, 0⟩)
abbrev s_is_whole : Stmt := topS 6
theorem sc_is_whole : FnScope ["value"] ["value"] (defScope s_is_whole) := ⟨rfl, rfl, rfl, by decide +kernel, rfl, by decide +kernel, by decide +kernel⟩
abbrev s_is_between : Stmt := topS 7
theorem sc_is_between : FnScope ["value", "low", "high"] ["value", "low", "high"] (defScope s_is_between) := ⟨rfl, rfl, rfl, by decide +kernel, rfl, by decide +kernel, by decide +kernel⟩
abbrev s_is_group : Stmt := topS 8
theorem sc_is_group : FnScope ["value", "size"] ["value", "size"] (defScope s_is_group) := ⟨rfl, rfl, rfl, by decide +kernel, rfl, by decide +kernel, by decide +kernel⟩
abbrev s_Map___init__ : Stmt := inClass (topS 18) 0
theorem sc_Map___init__ : FnScope ["self", "places", "roads", "prices", "box"] ["self", "places", "roads", "prices", "box"] (defScope s_Map___init__) := ⟨rfl, rfl, rfl, by decide +kernel, rfl, by decide +kernel, by decide +kernel⟩
abbrev s_Map_places : Stmt := inClass (topS 18) 1
theorem sc_Map_places : FnScope ["self"] ["self"] (defScope s_Map_places) := ⟨rfl, rfl, rfl, by decide +kernel, rfl, by decide +kernel, by decide +kernel⟩
abbrev s_Map_roads : Stmt := inClass (topS 18) 2
theorem sc_Map_roads : FnScope ["self"] ["self"] (defScope s_Map_roads) := ⟨rfl, rfl, rfl, by decide +kernel, rfl, by decide +kernel, by decide +kernel⟩
abbrev s_Map_prices : Stmt := inClass (topS 18) 3
theorem sc_Map_prices : FnScope ["self"] ["self"] (defScope s_Map_prices) := ⟨rfl, rfl, rfl, by decide +kernel, rfl, by decide +kernel, by decide +kernel⟩
abbrev s_Map_box : Stmt := inClass (topS 18) 4
theorem sc_Map_box : FnScope ["self"] ["self"] (defScope s_Map_box) := ⟨rfl, rfl, rfl, by decide +kernel, rfl, by decide +kernel, by decide +kernel⟩
abbrev s_Map___len__ : Stmt := inClass (topS 18) 5
theorem sc_Map___len__ : FnScope ["self"] ["self"] (defScope s_Map___len__) := ⟨rfl, rfl, rfl, by decide +kernel, rfl, by decide +kernel, by decide +kernel⟩
abbrev s_Map___eq__ : Stmt := inClass (topS 18) 6
theorem sc_Map___eq__ : FnScope ["self", "other"] ["self", "other"] (defScope s_Map___eq__) := ⟨rfl, rfl, rfl, by decide +kernel, rfl, by decide +kernel, by decide +kernel⟩
abbrev s_are_roads : Stmt := topS 19
theorem sc_are_roads : FnScope ["places", "roads", "road", "at"] ["places", "roads"] (defScope s_are_roads) := ⟨rfl, rfl, rfl, by decide +kernel, rfl, by decide +kernel, by decide +kernel⟩
abbrev s_is_road : Stmt := topS 20
theorem sc_is_road : FnScope ["places", "road", "first", "second", "hours", "melt"] ["places", "road"] (defScope s_is_road) := ⟨rfl, rfl, rfl, by decide +kernel, rfl, by decide +kernel, by decide +kernel⟩
abbrev s_are_prices : Stmt := topS 21
theorem sc_are_prices : FnScope ["places", "prices", "price"] ["places", "prices"] (defScope s_are_prices) := ⟨rfl, rfl, rfl, by decide +kernel, rfl, by decide +kernel, by decide +kernel⟩
abbrev s_is_box : Stmt := topS 22
theorem sc_is_box : FnScope ["box"] ["box"] (defScope s_is_box) := ⟨rfl, rfl, rfl, by decide +kernel, rfl, by decide +kernel, by decide +kernel⟩
abbrev s_is_state : Stmt := topS 23
theorem sc_is_state : FnScope ["chart", "state", "room", "bear", "tops", "part", "top"] ["chart", "state"] (defScope s_is_state) := ⟨rfl, rfl, rfl, by decide +kernel, rfl, by decide +kernel, by decide +kernel⟩
abbrev s_check_map : Stmt := topS 24
theorem sc_check_map : FnScope ["chart"] ["chart"] (defScope s_check_map) := ⟨rfl, rfl, rfl, by decide +kernel, rfl, by decide +kernel, by decide +kernel⟩
abbrev s_check_state : Stmt := topS 25
theorem sc_check_state : FnScope ["chart", "state"] ["chart", "state"] (defScope s_check_state) := ⟨rfl, rfl, rfl, by decide +kernel, rfl, by decide +kernel, by decide +kernel⟩
abbrev s_map_text : Stmt := topS 30
theorem sc_map_text : FnScope ["chart", "lines", "road"] ["chart"] (defScope s_map_text) := ⟨rfl, rfl, rfl, by decide +kernel, rfl, by decide +kernel, by decide +kernel⟩
abbrev s_state_text : Stmt := topS 31
theorem sc_state_text : FnScope ["chart", "state", "word", "part"] ["chart", "state"] (defScope s_state_text) := ⟨rfl, rfl, rfl, by decide +kernel, rfl, by decide +kernel, by decide +kernel⟩
abbrev s_read_map : Stmt := topS 32
theorem sc_read_map : FnScope ["text", "lines", "rest", "places", "roads", "row", "prices", "box"] ["text"] (defScope s_read_map) := ⟨rfl, rfl, rfl, by decide +kernel, rfl, by decide +kernel, by decide +kernel⟩
abbrev s_read_state : Stmt := topS 33
theorem sc_read_state : FnScope ["chart", "text", "lines", "rest", "words", "state", "word"] ["chart", "text"] (defScope s_read_state) := ⟨rfl, rfl, rfl, by decide +kernel, rfl, by decide +kernel, by decide +kernel⟩
abbrev s_line_of : Stmt := topS 34
theorem sc_line_of : FnScope ["word", "values", "value"] ["word", "values"] (defScope s_line_of) := ⟨rfl, rfl, rfl, by decide +kernel, rfl, by decide +kernel, by decide +kernel⟩
abbrev s_split_lines : Stmt := topS 35
theorem sc_split_lines : FnScope ["text"] ["text"] (defScope s_split_lines) := ⟨rfl, rfl, rfl, by decide +kernel, rfl, by decide +kernel, by decide +kernel⟩
abbrev s_line_at : Stmt := topS 36
theorem sc_line_at : FnScope ["lines", "row"] ["lines", "row"] (defScope s_line_at) := ⟨rfl, rfl, rfl, by decide +kernel, rfl, by decide +kernel, by decide +kernel⟩
abbrev s_values_in : Stmt := topS 37
theorem sc_values_in : FnScope ["line", "word", "words", "each"] ["line", "word"] (defScope s_values_in) := ⟨rfl, rfl, rfl, by decide +kernel, rfl, by decide +kernel, by decide +kernel⟩
abbrev s_value_of : Stmt := topS 38
theorem sc_value_of : FnScope ["word"] ["word"] (defScope s_value_of) := ⟨rfl, rfl, rfl, by decide +kernel, rfl, by decide +kernel, by decide +kernel⟩
abbrev s_roads_in : Stmt := topS 39
theorem sc_roads_in : FnScope ["lines", "places", "roads", "line", "road"] ["lines", "places"] (defScope s_roads_in) := ⟨rfl, rfl, rfl, by decide +kernel, rfl, by decide +kernel, by decide +kernel⟩
abbrev s__law_draw : Stmt := topS 41
theorem sc__law_draw : FnScope ["_law_cell", "_law_k", "_law_many", "_law_primes"] ["_law_cell", "_law_k", "_law_many"] (defScope s__law_draw) := ⟨rfl, rfl, rfl, by decide +kernel, rfl, by decide +kernel, by decide +kernel⟩
abbrev s__law_cell_at : Stmt := topS 42
theorem sc__law_cell_at : FnScope ["_law_script", "_law_k"] ["_law_script", "_law_k"] (defScope s__law_cell_at) := ⟨rfl, rfl, rfl, by decide +kernel, rfl, by decide +kernel, by decide +kernel⟩
abbrev s__law_digits : Stmt := topS 43
theorem sc__law_digits : FnScope ["_law_script", "_law_at", "_law_many", "_law_base", "_law_cell", "_law_found", "_law_remaining", "_law_turn", "_law_blend", "_law_more"] ["_law_script", "_law_at", "_law_many", "_law_base"] (defScope s__law_digits) := ⟨rfl, rfl, rfl, by decide +kernel, rfl, by decide +kernel, by decide +kernel⟩
abbrev s__law_take : Stmt := topS 44
theorem sc__law_take : FnScope ["_law_draws", "_law_many"] ["_law_draws", "_law_many"] (defScope s__law_take) := ⟨rfl, rfl, rfl, by decide +kernel, rfl, by decide +kernel, by decide +kernel⟩
abbrev s__law_pool : Stmt := topS 45
theorem sc__law_pool : FnScope ["_law_script", "_law_bases", "_law_found", "_law_at", "_law_base"] ["_law_script", "_law_bases"] (defScope s__law_pool) := ⟨rfl, rfl, rfl, by decide +kernel, rfl, by decide +kernel, by decide +kernel⟩
abbrev s__law_net : Stmt := topS 46
theorem sc__law_net : FnScope ["_law_draws", "_law_most", "_law_many", "_law_rows", "_law_at", "_law_turn", "_law_first", "_law_last", "_law_fees", "_law_place"] ["_law_draws", "_law_most"] (defScope s__law_net) := ⟨rfl, rfl, rfl, by decide +kernel, rfl, by decide +kernel, by decide +kernel⟩
abbrev s__law_state : Stmt := topS 47
theorem sc__law_state : FnScope ["_law_draws", "_law_net_here"] ["_law_draws", "_law_net_here"] (defScope s__law_state) := ⟨rfl, rfl, rfl, by decide +kernel, rfl, by decide +kernel, by decide +kernel⟩
abbrev s__law_line : Stmt := topS 48
theorem sc__law_line : FnScope ["_law_head", "_law_items", "_law_one"] ["_law_head", "_law_items"] (defScope s__law_line) := ⟨rfl, rfl, rfl, by decide +kernel, rfl, by decide +kernel, by decide +kernel⟩
abbrev s_law : Stmt := topS 49
theorem sc_law : FnScope ["_law_script", "_law_draws", "_law_turn", "_law_net_here", "_law_chart", "_law_text", "_law_road", "_law_state_here", "_law_more", "_law_word", "_law_one"] ["_law_script"] (defScope s_law) := ⟨rfl, rfl, rfl, by decide +kernel, rfl, by decide +kernel, by decide +kernel⟩
/-- what the top has left: where each def stands, and the classes' facts -/
abbrev tab_DIGITS : List (Str × Int) := [("0", 0), ("1", 1), ("2", 2), ("3", 3), ("4", 4), ("5", 5), ("6", 6), ("7", 7), ("8", 8), ("9", 9)]
structure Txt (w : World) (K : PySem.W.Frag) (mg : Str → Option Value) where
  a_is_whole : Addr
  fd_is_whole : FuncData
  F_is_whole : Fun K "is_whole" "is_whole" s_is_whole a_is_whole fd_is_whole
  b_is_whole : Binds K fd_is_whole ["value"] []
  g_is_whole : mg "is_whole" = some (.ref a_is_whole)
  a_is_between : Addr
  fd_is_between : FuncData
  F_is_between : Fun K "is_between" "is_between" s_is_between a_is_between fd_is_between
  b_is_between : Binds K fd_is_between ["value", "low", "high"] []
  g_is_between : mg "is_between" = some (.ref a_is_between)
  a_is_group : Addr
  fd_is_group : FuncData
  F_is_group : Fun K "is_group" "is_group" s_is_group a_is_group fd_is_group
  b_is_group : Binds K fd_is_group ["value", "size"] []
  g_is_group : mg "is_group" = some (.ref a_is_group)
  a_Map___init__ : Addr
  fd_Map___init__ : FuncData
  F_Map___init__ : Fun K "__init__" "Map.__init__" s_Map___init__ a_Map___init__ fd_Map___init__
  b_Map___init__ : Binds K fd_Map___init__ ["self", "places", "roads", "prices", "box"] []
  a_Map_places : Addr
  fd_Map_places : FuncData
  F_Map_places : Fun K "places" "Map.places" s_Map_places a_Map_places fd_Map_places
  b_Map_places : Binds K fd_Map_places ["self"] []
  a_Map_roads : Addr
  fd_Map_roads : FuncData
  F_Map_roads : Fun K "roads" "Map.roads" s_Map_roads a_Map_roads fd_Map_roads
  b_Map_roads : Binds K fd_Map_roads ["self"] []
  a_Map_prices : Addr
  fd_Map_prices : FuncData
  F_Map_prices : Fun K "prices" "Map.prices" s_Map_prices a_Map_prices fd_Map_prices
  b_Map_prices : Binds K fd_Map_prices ["self"] []
  a_Map_box : Addr
  fd_Map_box : FuncData
  F_Map_box : Fun K "box" "Map.box" s_Map_box a_Map_box fd_Map_box
  b_Map_box : Binds K fd_Map_box ["self"] []
  a_Map___len__ : Addr
  fd_Map___len__ : FuncData
  F_Map___len__ : Fun K "__len__" "Map.__len__" s_Map___len__ a_Map___len__ fd_Map___len__
  b_Map___len__ : Binds K fd_Map___len__ ["self"] []
  a_Map___eq__ : Addr
  fd_Map___eq__ : FuncData
  F_Map___eq__ : Fun K "__eq__" "Map.__eq__" s_Map___eq__ a_Map___eq__ fd_Map___eq__
  b_Map___eq__ : Binds K fd_Map___eq__ ["self", "other"] []
  a_are_roads : Addr
  fd_are_roads : FuncData
  F_are_roads : Fun K "are_roads" "are_roads" s_are_roads a_are_roads fd_are_roads
  b_are_roads : Binds K fd_are_roads ["places", "roads"] []
  g_are_roads : mg "are_roads" = some (.ref a_are_roads)
  a_is_road : Addr
  fd_is_road : FuncData
  F_is_road : Fun K "is_road" "is_road" s_is_road a_is_road fd_is_road
  b_is_road : Binds K fd_is_road ["places", "road"] []
  g_is_road : mg "is_road" = some (.ref a_is_road)
  a_are_prices : Addr
  fd_are_prices : FuncData
  F_are_prices : Fun K "are_prices" "are_prices" s_are_prices a_are_prices fd_are_prices
  b_are_prices : Binds K fd_are_prices ["places", "prices"] []
  g_are_prices : mg "are_prices" = some (.ref a_are_prices)
  a_is_box : Addr
  fd_is_box : FuncData
  F_is_box : Fun K "is_box" "is_box" s_is_box a_is_box fd_is_box
  b_is_box : Binds K fd_is_box ["box"] []
  g_is_box : mg "is_box" = some (.ref a_is_box)
  a_is_state : Addr
  fd_is_state : FuncData
  F_is_state : Fun K "is_state" "is_state" s_is_state a_is_state fd_is_state
  b_is_state : Binds K fd_is_state ["chart", "state"] []
  g_is_state : mg "is_state" = some (.ref a_is_state)
  a_check_map : Addr
  fd_check_map : FuncData
  F_check_map : Fun K "check_map" "check_map" s_check_map a_check_map fd_check_map
  b_check_map : Binds K fd_check_map ["chart"] []
  g_check_map : mg "check_map" = some (.ref a_check_map)
  a_check_state : Addr
  fd_check_state : FuncData
  F_check_state : Fun K "check_state" "check_state" s_check_state a_check_state fd_check_state
  b_check_state : Binds K fd_check_state ["chart", "state"] []
  g_check_state : mg "check_state" = some (.ref a_check_state)
  a_map_text : Addr
  fd_map_text : FuncData
  F_map_text : Fun K "map_text" "map_text" s_map_text a_map_text fd_map_text
  b_map_text : Binds K fd_map_text ["chart"] []
  g_map_text : mg "map_text" = some (.ref a_map_text)
  a_state_text : Addr
  fd_state_text : FuncData
  F_state_text : Fun K "state_text" "state_text" s_state_text a_state_text fd_state_text
  b_state_text : Binds K fd_state_text ["chart", "state"] []
  g_state_text : mg "state_text" = some (.ref a_state_text)
  a_read_map : Addr
  fd_read_map : FuncData
  F_read_map : Fun K "read_map" "read_map" s_read_map a_read_map fd_read_map
  b_read_map : Binds K fd_read_map ["text"] []
  g_read_map : mg "read_map" = some (.ref a_read_map)
  a_read_state : Addr
  fd_read_state : FuncData
  F_read_state : Fun K "read_state" "read_state" s_read_state a_read_state fd_read_state
  b_read_state : Binds K fd_read_state ["chart", "text"] []
  g_read_state : mg "read_state" = some (.ref a_read_state)
  a_line_of : Addr
  fd_line_of : FuncData
  F_line_of : Fun K "line_of" "line_of" s_line_of a_line_of fd_line_of
  b_line_of : Binds K fd_line_of ["word", "values"] []
  g_line_of : mg "line_of" = some (.ref a_line_of)
  a_split_lines : Addr
  fd_split_lines : FuncData
  F_split_lines : Fun K "split_lines" "split_lines" s_split_lines a_split_lines fd_split_lines
  b_split_lines : Binds K fd_split_lines ["text"] []
  g_split_lines : mg "split_lines" = some (.ref a_split_lines)
  a_line_at : Addr
  fd_line_at : FuncData
  F_line_at : Fun K "line_at" "line_at" s_line_at a_line_at fd_line_at
  b_line_at : Binds K fd_line_at ["lines", "row"] []
  g_line_at : mg "line_at" = some (.ref a_line_at)
  a_values_in : Addr
  fd_values_in : FuncData
  F_values_in : Fun K "values_in" "values_in" s_values_in a_values_in fd_values_in
  b_values_in : Binds K fd_values_in ["line", "word"] []
  g_values_in : mg "values_in" = some (.ref a_values_in)
  a_value_of : Addr
  fd_value_of : FuncData
  F_value_of : Fun K "value_of" "value_of" s_value_of a_value_of fd_value_of
  b_value_of : Binds K fd_value_of ["word"] []
  g_value_of : mg "value_of" = some (.ref a_value_of)
  a_roads_in : Addr
  fd_roads_in : FuncData
  F_roads_in : Fun K "roads_in" "roads_in" s_roads_in a_roads_in fd_roads_in
  b_roads_in : Binds K fd_roads_in ["lines", "places"] []
  g_roads_in : mg "roads_in" = some (.ref a_roads_in)
  a__law_draw : Addr
  fd__law_draw : FuncData
  F__law_draw : Fun K "_law_draw" "_law_draw" s__law_draw a__law_draw fd__law_draw
  b__law_draw : Binds K fd__law_draw ["_law_cell", "_law_k", "_law_many"] []
  g__law_draw : mg "_law_draw" = some (.ref a__law_draw)
  a__law_cell_at : Addr
  fd__law_cell_at : FuncData
  F__law_cell_at : Fun K "_law_cell_at" "_law_cell_at" s__law_cell_at a__law_cell_at fd__law_cell_at
  b__law_cell_at : Binds K fd__law_cell_at ["_law_script", "_law_k"] []
  g__law_cell_at : mg "_law_cell_at" = some (.ref a__law_cell_at)
  a__law_digits : Addr
  fd__law_digits : FuncData
  F__law_digits : Fun K "_law_digits" "_law_digits" s__law_digits a__law_digits fd__law_digits
  b__law_digits : Binds K fd__law_digits ["_law_script", "_law_at", "_law_many", "_law_base"] []
  g__law_digits : mg "_law_digits" = some (.ref a__law_digits)
  a__law_take : Addr
  fd__law_take : FuncData
  F__law_take : Fun K "_law_take" "_law_take" s__law_take a__law_take fd__law_take
  b__law_take : Binds K fd__law_take ["_law_draws", "_law_many"] []
  g__law_take : mg "_law_take" = some (.ref a__law_take)
  a__law_pool : Addr
  fd__law_pool : FuncData
  F__law_pool : Fun K "_law_pool" "_law_pool" s__law_pool a__law_pool fd__law_pool
  b__law_pool : Binds K fd__law_pool ["_law_script", "_law_bases"] []
  g__law_pool : mg "_law_pool" = some (.ref a__law_pool)
  a__law_net : Addr
  fd__law_net : FuncData
  F__law_net : Fun K "_law_net" "_law_net" s__law_net a__law_net fd__law_net
  b__law_net : Binds K fd__law_net ["_law_draws", "_law_most"] []
  g__law_net : mg "_law_net" = some (.ref a__law_net)
  a__law_state : Addr
  fd__law_state : FuncData
  F__law_state : Fun K "_law_state" "_law_state" s__law_state a__law_state fd__law_state
  b__law_state : Binds K fd__law_state ["_law_draws", "_law_net_here"] []
  g__law_state : mg "_law_state" = some (.ref a__law_state)
  a__law_line : Addr
  fd__law_line : FuncData
  F__law_line : Fun K "_law_line" "_law_line" s__law_line a__law_line fd__law_line
  b__law_line : Binds K fd__law_line ["_law_head", "_law_items"] []
  g__law_line : mg "_law_line" = some (.ref a__law_line)
  a_law : Addr
  fd_law : FuncData
  F_law : Fun K "law" "law" s_law a_law fd_law
  b_law : Binds K fd_law ["_law_script"] []
  g_law : mg "law" = some (.ref a_law)
  C_Map : Addr
  g_Map : mg "Map" = some (.ref C_Map)
  T_Map : ClsT K C_Map
  mk_Map : Mk K C_Map a_Map___init__
  na_Map__places : NoAttr K C_Map "_places"
  na_Map__roads : NoAttr K C_Map "_roads"
  na_Map__prices : NoAttr K C_Map "_prices"
  na_Map__box : NoAttr K C_Map "_box"
  p_Map_places : Addr
  PO_places : PropOf K C_Map "places" p_Map_places a_Map_places
  p_Map_roads : Addr
  PO_roads : PropOf K C_Map "roads" p_Map_roads a_Map_roads
  p_Map_prices : Addr
  PO_prices : PropOf K C_Map "prices" p_Map_prices a_Map_prices
  p_Map_box : Addr
  PO_box : PropOf K C_Map "box" p_Map_box a_Map_box
  L_Map : Meth K C_Map "__len__" a_Map___len__
  M_Map___eq__ : Meth K C_Map "__eq__" a_Map___eq__
  n_len : mg "len" = none
  n_range : mg "range" = none
  n_isinstance : mg "isinstance" = none
  n_all : mg "all" = none
  n_zip : mg "zip" = none
  n_enumerate : mg "enumerate" = none
  n_sorted : mg "sorted" = none
  n_set : mg "set" = none
  n_int : mg "int" = none
  n_bool : mg "bool" = none
  n_tuple : mg "tuple" = none
  n_sum : mg "sum" = none
  n_abs : mg "abs" = none
  n_str : mg "str" = none
  k_MOST_PLACES : ∃ t, mg "MOST_PLACES" = some (.int (5) t)
  k_MOST_ROADS : ∃ t, mg "MOST_ROADS" = some (.int (7) t)
  k_MOST_HOURS : ∃ t, mg "MOST_HOURS" = some (.int (4) t)
  k_MOST_MELT : ∃ t, mg "MOST_MELT" = some (.int (3) t)
  k_MOST_PRICE : ∃ t, mg "MOST_PRICE" = some (.int (9) t)
  k_MOST_ROOM : ∃ t, mg "MOST_ROOM" = some (.int (6) t)
  k_MOST_BEAR : ∃ t, mg "MOST_BEAR" = some (.int (2) t)
  k_MOST_LATE : ∃ t, mg "MOST_LATE" = some (.int (4) t)
  D_DIGITS : Addr
  e_DIGITS : Array DictEntry
  n_DIGITS : Nat
  g_DIGITS : mg "DIGITS" = some (.ref D_DIGITS)
  K_DIGITS : KDict K w D_DIGITS e_DIGITS n_DIGITS
  v_DIGITS : ∀ q ∈ tab_DIGITS, ∃ u, PySem.W.nsIn K D_DIGITS q.1 = some (some u) ∧ RelV (.int q.2) u
  k_NO_VALUE : ∃ t, mg "NO_VALUE" = some (.int (-1) t)
  D_STATE_WORDS : Addr
  g_STATE_WORDS : mg "STATE_WORDS" = some (.ref D_STATE_WORDS)
  t_STATE_WORDS : ∀ H : Hp, SqT K H D_STATE_WORDS ((["at", "ice", "warm", "late"] : List Str).map V.str)
section
variable {X : Cx}
theorem pe_globI {x : Str} {i : Int} {pos : Pos} (hg : Gl X x) (h : ∃ t, X.mg x = some (.int i t)) (hd : (x == ("__debug__" : Str)) = false := by decide) : PE X (.Name x pos) (tC (.int i)) := by
  obtain ⟨t, h⟩ := h
  exact pe_glob hg h ⟨t, rfl⟩ hd
end
end K34
end
section
set_option Elab.async false
set_option linter.all false
set_option maxRecDepth 100000
set_option maxHeartbeats 4000000
namespace K34
open PySem PySem.Spec PyProof.Rows L2 DL
section
variable {P : Program} {w : World} {K : PySem.W.Frag} {mg : Str → Option Value} {base : Heap} {k : Nat}
theorem Txt.cl (T : Txt w K mg) : Cls K T.C_Map := T.T_Map.cl
/-! getters -/
theorem get_places (T : Txt w K mg) : FnOk P w K mg base CX0 (k + 1) T.a_Map_places T.fd_Map_places ["self"] (getSp T.C_Map "_places") := by
  refine T.F_Map_places.ok sc_Map_places (fun vs H Q E h => ?_) (fun cdv A outer s H vs Q E hr h => ?_)
  · obtain ⟨a, dx, fs, v, e, _⟩ := h
    rw [e]
    rfl
  · obtain ⟨a, dx, fs, v, rfl, ea, l, q⟩ := h
    refine ⟨_, pss_one (ps_ret (pe_fld (pv 0) rfl)), ?_⟩
    exact ⟨.ref a, rfl, a, T.C_Map, dx, fs, v, rfl, ea, T.cl, T.na_Map__places, l, q⟩
theorem get_roads (T : Txt w K mg) : FnOk P w K mg base CX0 (k + 1) T.a_Map_roads T.fd_Map_roads ["self"] (getSp T.C_Map "_roads") := by
  refine T.F_Map_roads.ok sc_Map_roads (fun vs H Q E h => ?_) (fun cdv A outer s H vs Q E hr h => ?_)
  · obtain ⟨a, dx, fs, v, e, _⟩ := h
    rw [e]
    rfl
  · obtain ⟨a, dx, fs, v, rfl, ea, l, q⟩ := h
    refine ⟨_, pss_one (ps_ret (pe_fld (pv 0) rfl)), ?_⟩
    exact ⟨.ref a, rfl, a, T.C_Map, dx, fs, v, rfl, ea, T.cl, T.na_Map__roads, l, q⟩
theorem get_prices (T : Txt w K mg) : FnOk P w K mg base CX0 (k + 1) T.a_Map_prices T.fd_Map_prices ["self"] (getSp T.C_Map "_prices") := by
  refine T.F_Map_prices.ok sc_Map_prices (fun vs H Q E h => ?_) (fun cdv A outer s H vs Q E hr h => ?_)
  · obtain ⟨a, dx, fs, v, e, _⟩ := h
    rw [e]
    rfl
  · obtain ⟨a, dx, fs, v, rfl, ea, l, q⟩ := h
    refine ⟨_, pss_one (ps_ret (pe_fld (pv 0) rfl)), ?_⟩
    exact ⟨.ref a, rfl, a, T.C_Map, dx, fs, v, rfl, ea, T.cl, T.na_Map__prices, l, q⟩
theorem get_box (T : Txt w K mg) : FnOk P w K mg base CX0 (k + 1) T.a_Map_box T.fd_Map_box ["self"] (getSp T.C_Map "_box") := by
  refine T.F_Map_box.ok sc_Map_box (fun vs H Q E h => ?_) (fun cdv A outer s H vs Q E hr h => ?_)
  · obtain ⟨a, dx, fs, v, e, _⟩ := h
    rw [e]
    rfl
  · obtain ⟨a, dx, fs, v, rfl, ea, l, q⟩ := h
    refine ⟨_, pss_one (ps_ret (pe_fld (pv 0) rfl)), ?_⟩
    exact ⟨.ref a, rfl, a, T.C_Map, dx, fs, v, rfl, ea, T.cl, T.na_Map__box, l, q⟩
/-! is_whole -/
def isWhole : D → Bool
  | .int _ => true
  | _ => false
def R_is_whole (ds : List D) (d : D) : Prop := ∃ v T, ds = [v] ∧ v.tyn = some T ∧ d = .bl (isWhole v)
theorem ok_is_whole (T : Txt w K mg) : FnOk P w K mg base CX0 1 T.a_is_whole T.fd_is_whole ["value"] (spP K 1 R_is_whole) := by
  refine fnP T.F_is_whole sc_is_whole rfl (fun cdv A outer s H E hr => ?_)
  refine ⟨_, (pss_one (ps_ret (pe_and (pe_callB (callIsi K) (by rfl) T.n_isinstance (by decide +kernel) (pa_cons (pv 0) (pa_cons (pe_bltn (v := .ty "int") (by rfl) T.n_int (by decide +kernel) rfl) pa_nil))) (pe_one (pe_not (pe_callB (callIsi K) (by rfl) T.n_isinstance (by decide +kernel) (pa_cons (pv 0) (pa_cons (pe_bltn (v := .ty "bool") (by rfl) T.n_bool (by decide +kernel) rfl) pa_nil)))))))), ?_⟩
  rintro ds d ⟨v, T, rfl, hv, rfl⟩ -
  refine .rt (ds_ret ?_)
  have hi : ∀ {c b}, kitB T c = some b → DT K (tCB (rIsi K) (tCons (tVar 0) (tCons (tC (.ty c)) tNil))) [some (.dat v)] [] (.dat (.bl b)) [] := fun h => dt_isi (dt_var rfl) hv h
  cases v with
  | non => cases hv; exact dt_andV_f (hi (by decide +kernel))
  | bl b => cases hv; exact dt_andV_t (b := false) (hi (by decide +kernel)) (dt_notV (b := true) (hi (by decide +kernel)))
  | int i => cases hv; exact dt_andV_t (b := true) (hi (by decide +kernel)) (dt_notV (b := false) (hi (by decide +kernel)))
  | str x => cases hv; exact dt_andV_f (hi (by decide +kernel))
  | lst x => cases hv; exact dt_andV_f (hi (by decide +kernel))
  | tup x => cases hv; exact dt_andV_f (hi (by decide +kernel))
  | obj C x => cases hv
  | ctp x => cases hv
  | dic x => cases hv
  | rls x => cases hv
/-! is_between, for ints -/
def R_is_between (ds : List D) (d : D) : Prop := ∃ i lo hi, ds = [.int i, .int lo, .int hi] ∧ d = .bl (decide (lo ≤ i) && decide (i ≤ hi))
theorem ok_is_between (T : Txt w K mg) : FnOk P w K mg base CX0 2 T.a_is_between T.fd_is_between ["value", "low", "high"] (spP K 3 R_is_between) := by
  refine fnP T.F_is_between sc_is_between rfl (fun cdv A outer s H E hr => ?_)
  refine ⟨_, (pss_one (ps_ret (pe_and (pe_call (ok_is_whole T) (hr.mono (by decide)) (by rfl) T.g_is_whole T.F_is_whole.kp T.b_is_whole .nil pass0 (pa_cons (pv 0) pa_nil)) (pe_one (pe_chain op_le op_le (pv 1) (pv 0) (pv 2)))))), ?_⟩
  rintro ds d ⟨i, lo, hi, rfl, rfl⟩ -
  exact .rt (ds_ret (dt_andV_t (b := true) (dt_call (da_cons (dt_var rfl) da_nil) ⟨_, _, rfl, rfl, rfl⟩) (dt_chain (dt_var rfl) (dt_var rfl) (dt_var rfl))))
/-! is_group, for tuples -/
def R_is_group (ds : List D) (d : D) : Prop := ∃ es n, ds = [.tup es, .int n] ∧ d = .bl (decide ((es.length : Int) = n))
theorem ok_is_group (T : Txt w K mg) : FnOk P w K mg base CX0 1 T.a_is_group T.fd_is_group ["value", "size"] (spP K 2 R_is_group) := by
  refine fnP T.F_is_group sc_is_group rfl (fun cdv A outer s H E hr => ?_)
  refine ⟨_, (pss_one (ps_ret (pe_and (pe_callB (callIsi K) (by rfl) T.n_isinstance (by decide +kernel) (pa_cons (pv 0) (pa_cons (pe_bltn (v := .ty "tuple") (by rfl) T.n_tuple (by decide +kernel) rfl) pa_nil))) (pe_one (pe_cmpR op_eq (pe_callB (callLen K) (by rfl) T.n_len PySem.boot_len (pa_cons (pv 0) pa_nil)) (pv 1) (nomark _)))))), ?_⟩
  rintro ds d ⟨es, n, rfl, rfl⟩ -
  exact .rt (ds_ret (dt_andV_t (b := true) (dt_isi (dt_var rfl) rfl (by decide +kernel)) (dt_eqI (dt_lenT (dt_var rfl)) (dt_var rfl))))
end
end K34
end
section
set_option Elab.async false
set_option linter.all false
set_option maxRecDepth 100000
set_option maxHeartbeats 4000000
namespace K34
open PySem PySem.Spec PyProof.Rows L2 DL
/-! ### the mathematics: maps, states, moves, results -/
structure Road where
  a : Int
  b : Int
  h : Int
  m : Int
structure MapD where
  places : Int
  roads : List Road
  prices : List (Option Int)
  room : Int
  bear : Int
structure StD where
  p : Int
  i : Int
  w : Int
  l : Int
def Road.row (r : Road) : List Int := [r.a, r.b, r.h, r.m]
def roadD (r : Road) : D := .tup [.int r.a, .int r.b, .int r.h, .int r.m]
def optD : Option Int → D
  | none => .non
  | some p => .int p
def mapFs (M : MapD) : List (Str × D) := [("_places", .int M.places), ("_roads", .tup (M.roads.map roadD)), ("_prices", .tup (M.prices.map optD)), ("_box", .tup [.int M.room, .int M.bear])]
def mapD (C : Addr) (M : MapD) : D := .obj C (mapFs M)
def stD (s : StD) : D := .tup [.int s.p, .int s.i, .int s.w, .int s.l]
def MapD.road (M : MapD) (i : Nat) : Road := M.roads.getD i ⟨0, 0, 0, 0⟩
def MapD.price (M : MapD) (p : Int) : Option Int := M.prices.getD p.toNat none
structure Road.Ok (n : Int) (r : Road) : Prop where
  a0 : 0 ≤ r.a
  ab : r.a < r.b
  bn : r.b ≤ n - 1
  h1 : 1 ≤ r.h
  h4 : r.h ≤ 4
  m0 : 0 ≤ r.m
  m3 : r.m ≤ 3
structure MapD.Ok (M : MapD) : Prop where
  p2 : 2 ≤ M.places
  p5 : M.places ≤ 5
  r1 : 1 ≤ M.roads.length
  r7 : M.roads.length ≤ 7
  rd : ∀ r ∈ M.roads, r.Ok M.places
  asc : ∀ i, i + 1 < M.roads.length → HT.lexLt (M.road i).row (M.road (i + 1)).row = true
  pl : (M.prices.length : Int) = M.places
  pr : ∀ p ∈ M.prices, ∀ x, p = some x → 1 ≤ x ∧ x ≤ 9
  m1 : 1 ≤ M.room
  m6 : M.room ≤ 6
  b0 : 0 ≤ M.bear
  b2 : M.bear ≤ 2
structure StD.Ok (M : MapD) (s : StD) : Prop where
  p0 : 0 ≤ s.p
  p1 : s.p ≤ M.places - 1
  i0 : 0 ≤ s.i
  i1 : s.i ≤ M.room
  w0 : 0 ≤ s.w
  w1 : s.w ≤ M.bear
  l0 : 0 ≤ s.l
  l1 : s.l ≤ 4
/-- the roads that lead from a place -/
def MapD.lead (M : MapD) (p : Int) : List Nat := (List.range M.roads.length).filter fun i => decide ((M.road i).a = p)
def MapD.most (M : MapD) (s : StD) : Int := if M.price s.p = none then 0 else M.room - s.i
def mvD (pieces : Nat) (r : Nat) : D := .tup [.int (pieces : Nat), .int (r : Nat)]
def MapD.moves (M : MapD) (s : StD) : List D := (List.range (M.most s + 1).toNat).flatMap fun i => (M.lead s.p).map (mvD i)
/-- the pairs of at most so many pieces and a road at a place -/
def MapD.top (M : MapD) (p most : Int) : Int := if M.price p = none then 0 else most
def MapD.pairs (M : MapD) (p most : Int) : List D := (List.range (M.top p most + 1).toNat).flatMap fun i => (M.lead p).map (mvD i)
/-- one hour -/
def hour (m : Int) (x : Int × Int) : Int × Int := if x.1 ≥ m then (x.1 - m, x.2) else (0, x.2 + 1)
def hours (m : Int) (x : Int × Int) : Nat → Int × Int
  | 0 => x
  | n + 1 => hour m (hours m x n)
def endD (M : MapD) (r : Road) (l : Int) (x : Int × Int) (more : Nat) : D := if x.2 ≤ M.bear then .tup [.int r.b, .int x.1, .int x.2, .int (l - more)] else .non
def MapD.ends (M : MapD) (s : StD) (pieces : Nat) (road : Nat) : List D :=
  (List.range (s.l + 1).toNat).map fun more => endD M (M.road road) s.l (hours (M.road road).m (s.i + pieces, s.w) ((M.road road).h.toNat + more)) more
/-! lists by place -/
theorem range_map {α : Type} (g : D → α) (l : List D) : (List.range l.length).map (fun j => g (nthD l j)) = l.map g := by
  apply List.ext_getElem?
  intro i
  rw [List.getElem?_map, List.getElem?_map]
  by_cases h : i < l.length
  · rw [List.getElem?_range h, nthD_get h]
    rfl
  · rw [List.getElem?_eq_none (by simpa using h), List.getElem?_eq_none (by simpa using h)]
    rfl
theorem nth_map {α : Type} (f : α → D) {l : List α} {i : Nat} (h : i < l.length) (z : α) : nthD (l.map f) i = f (l.getD i z) := by
  have e : (l.map f)[i]? = some (nthD (l.map f) i) := nthD_get (by rw [List.length_map]; exact h)
  rw [List.getElem?_map, List.getElem?_eq_getElem h] at e
  rw [List.getD_eq_getElem?_getD, List.getElem?_eq_getElem h]
  exact (Option.some.inj e).symm
theorem atI_map {α : Type} (f : α → D) {l : List α} {i : Int} (h0 : 0 ≤ i) (h : i < l.length) (z : α) : L2.atI (l.map f) i = some (f (l.getD i.toNat z)) := by
  have hn : i.toNat < l.length := by omega
  have ei : i = ((i.toNat : Nat) : Int) := by omega
  rw [ei]
  refine atI_nat ?_
  rw [List.getElem?_map, List.getElem?_eq_getElem hn, Int.toNat_natCast, List.getD_eq_getElem?_getD, List.getElem?_eq_getElem hn]
  rfl
section
variable {P : Program} {w : World} {K : PySem.W.Frag} {mg : Str → Option Value} {base : Heap} {k : Nat}
/-! ### roads_from -/
def R_roads_from (C : Addr) (ds : List D) (d : D) : Prop := ∃ M p, ds = [mapD C M, .int p] ∧ M.roads.length ≤ 7 ∧ d = .lst ((M.lead p).map fun i => .int (i : Nat))
end
end K34
end
section
set_option Elab.async false
set_option linter.all false
set_option maxRecDepth 100000
set_option maxHeartbeats 4000000
namespace K34
open PySem PySem.Spec PyProof.Rows L2 DL
section
variable {P : Program} {w : World} {K : PySem.W.Frag} {mg : Str → Option Value} {base : Heap} {k : Nat}
theorem price_isN (M : MapD) (p : Int) : D.isN (optD (M.price p)) = decide (M.price p = none) := by
  cases M.price p with
  | none => rfl
  | some x => simp [optD, D.isN]
theorem price_at {M : MapD} {p : Int} (h0 : 0 ≤ p) (h : p < M.prices.length) : L2.atI (M.prices.map optD) p = some (optD (M.price p)) := atI_map optD h0 h none
theorem road_at {M : MapD} {r : Nat} (h : r < M.roads.length) : L2.atI (M.roads.map roadD) ((r : Nat) : Int) = some (roadD (M.road r)) := atI_map roadD (by omega) (by omega) ⟨0, 0, 0, 0⟩
theorem lead_lt {M : MapD} {p : Int} {r : Nat} (h : r ∈ M.lead p) : r < M.roads.length := List.mem_range.mp (List.mem_filter.mp h).1
theorem lead_a {M : MapD} {p : Int} {r : Nat} (h : r ∈ M.lead p) : (M.road r).a = p := of_decide_eq_true (List.mem_filter.mp h).2
theorem lead_len (M : MapD) (p : Int) : (M.lead p).length ≤ M.roads.length := by
  have := List.length_filter_le (fun i => decide ((M.road i).a = p)) (List.range M.roads.length)
  rw [List.length_range] at this
  exact this
/-! ### possible_moves -/
structure InR (M : MapD) (s : StD) : Prop where
  r7 : M.roads.length ≤ 7
  p0 : 0 ≤ s.p
  pn : s.p < M.prices.length
  i0 : 0 ≤ s.i
  i1 : s.i ≤ M.room
  m6 : M.room ≤ 6
theorem most_bd {M : MapD} {s : StD} (h : InR M s) : 0 ≤ M.most s ∧ M.most s ≤ 6 := by
  have h1 := h.i0
  have h2 := h.i1
  have h3 := h.m6
  unfold MapD.most
  split <;> omega
def R_pairs (C : Addr) (ds : List D) (d : D) : Prop := ∃ (M : MapD) (p most : Int), ds = [mapD C M, .int p, .int most] ∧ M.roads.length ≤ 7 ∧ 0 ≤ p ∧ p < M.prices.length ∧ 0 ≤ most ∧ most ≤ 6 ∧ d = .lst (M.pairs p most)
def R_moves (C : Addr) (ds : List D) (d : D) : Prop := ∃ M s, ds = [mapD C M, stD s] ∧ InR M s ∧ d = .lst (M.moves s)
/-! ### after_hour -/
def R_after_hour (ds : List D) (d : D) : Prop := ∃ i w m, ds = [.int i, .int w, .int m] ∧ d = .tup [.int (hour m (i, w)).1, .int (hour m (i, w)).2]
/-! ### move_results -/
structure InM (M : MapD) (s : StD) (r : Nat) : Prop where
  rl : r < M.roads.length
  h1 : 0 ≤ (M.road r).h
  h4 : (M.road r).h ≤ 4
  l0 : 0 ≤ s.l
  l4 : s.l ≤ 4
def R_results (C : Addr) (ds : List D) (d : D) : Prop := ∃ M s p r, ds = [mapD C M, stD s, mvD p r] ∧ InM M s r ∧ d = .lst (M.ends s p r)
end
end K34
end
section
set_option Elab.async false
set_option linter.all false
set_option maxRecDepth 100000
set_option maxHeartbeats 4000000
namespace K34
open PySem PySem.Spec PyProof.Rows L2 DL
section
variable {K : PySem.W.Frag} {ss ss1 ss2 : Sl} {mem m1 m2 m3 m4 : List Mc} {t u : TS} {out : Out} {te : TE}
theorem ds_guard {c : TT} (h : DB K c ss mem false m1) (g : DS K u ss m1 out) : DS K (tSeq (tIfS c t tNext) u) ss mem out := ds_seq (ds_if_f h ds_next) g
theorem db_nt (h : DT K te ss mem (.dat (.bl true)) m1) : DB K (tNot (tB te)) ss mem false m1 := db_not (db_b h)
theorem bt {i lo hi : Int} (h1 : lo ≤ i) (h2 : i ≤ hi) : D.bl true = .bl (decide (lo ≤ i) && decide (i ≤ hi)) := by
  rw [decide_eq_true h1, decide_eq_true h2]
  rfl
theorem gt {n : Int} {es : List D} (h : (es.length : Int) = n) : D.bl true = .bl (decide ((es.length : Int) = n)) := by rw [decide_eq_true h]
/-- all(..) over turns that all hold -/
theorem dt_allT {wi : TI} {g : TG} {vs : List Nat} {n : Nat} {it : Nat → D} (hi : DI K wi ss mem n it m1) (hn : n ≤ 16777216)
    (step : ∀ i, i < n → ∃ s1 ws, DG K g (wipeS ss vs) (it i) s1 ws ∧ (∀ w ∈ ws, w ∈ vs) ∧ DT K te s1 m1 (.dat (.bl true)) m1) : DT K (tCB (rAll K) (tCons (tLc wi g tYes te vs) tNil)) ss mem (.dat (.bl true)) m1 := by
  have h := dt_all (bs := (List.range n).map fun _ => true) (by rw [List.map_map]; exact dt_lcMap hi (fun _ => .bl true) hn step)
  have e : ((List.range n).map fun _ => true).all id = true := by simp
  rw [e] at h
  exact h
end
section
variable {P : Program} {w : World} {K : PySem.W.Frag} {mg : Str → Option Value} {base : Heap} {k : Nat}
def isTrue (Q : List D → Prop) (ds : List D) (d : D) : Prop := Q ds ∧ d = .bl true
/-! ### the parts of a map -/
theorem ok_is_road (T : Txt w K mg) : FnOk P w K mg base CX0 3 T.a_is_road T.fd_is_road ["places", "road"] (spP K 2 (isTrue fun ds => ∃ n r, ds = [.int n, roadD r] ∧ r.Ok n)) := by
  refine fnP T.F_is_road sc_is_road rfl (fun cdv A outer s H E hr => ?_)
  refine ⟨_, (pss_cons (ps_if (pt_not (pt_val (pe_call (ok_is_group T) (hr.mono (by decide)) (by rfl) T.g_is_group T.F_is_group.kp T.b_is_group .nil pass0 (pa_cons (pv 1) (pa_cons pe_int pa_nil))))) (pss_one (ps_ret pe_bl)) pss_nil)
  (pss_cons (ps_asg (pv 1) (pgTup K 4 (pgs_cons (pg_name (i := 2) sc_is_road.nd rfl (.inl rfl)) (pgs_cons (pg_name (i := 3) sc_is_road.nd rfl (.inl rfl)) (pgs_cons (pg_name (i := 4) sc_is_road.nd rfl (.inl rfl)) (pgs_cons (pg_name (i := 5) sc_is_road.nd rfl (.inl rfl)) pgs_nil))))))
  (pss_cons (ps_if (PW.pt (pw_or (pt_not (pt_val (pe_call (ok_is_between T) (hr.mono (by decide)) (by rfl) T.g_is_between T.F_is_between.kp T.b_is_between .nil pass0 (pa_cons (pv 2) (pa_cons pe_int (pa_cons (pe_op op_sub (pv 0) pe_int) pa_nil)))))) (pw_or1 (pt_not (pt_val (pe_call (ok_is_between T) (hr.mono (by decide)) (by rfl) T.g_is_between T.F_is_between.kp T.b_is_between .nil pass0 (pa_cons (pv 3) (pa_cons pe_int (pa_cons (pe_op op_sub (pv 0) pe_int) pa_nil))))))))) (pss_one (ps_ret pe_bl)) pss_nil)
  (pss_one (ps_ret (pe_and (pe_cmpR op_lt (pv 2) (pv 3) (nomark _)) (pe_and (pe_call (ok_is_between T) (hr.mono (by decide)) (by rfl) T.g_is_between T.F_is_between.kp T.b_is_between .nil pass0 (pa_cons (pv 4) (pa_cons pe_int (pa_cons (pe_globI (by rfl) T.k_MOST_HOURS) pa_nil)))) (pe_one (pe_call (ok_is_between T) (hr.mono (by decide)) (by rfl) T.g_is_between T.F_is_between.kp T.b_is_between .nil pass0 (pa_cons (pv 5) (pa_cons pe_int (pa_cons (pe_globI (by rfl) T.k_MOST_MELT) pa_nil)))))))))))), ?_⟩
  rintro ds d ⟨⟨n, r, rfl, h⟩, rfl⟩ -
  have a0 := h.a0
  have ab := h.ab
  have bn := h.bn
  have h1 := h.h1
  have h4 := h.h4
  have m0 := h.m0
  have m3 := h.m3
  refine .rt (ds_guard (db_nt (dt_call (da_cons (dt_var rfl) (da_cons dt_int da_nil)) ⟨_, _, rfl, rfl⟩)) ?_)
  refine ds_seq (ds_asg (dt_var rfl) (dg_tup (dgs_cons dg_name (dgs_cons dg_name (dgs_cons dg_name (dgs_cons dg_name dgs_nil)))) rfl)) ?_
  refine ds_guard (db_or_f (db_nt (dt_call (da_cons (dt_var rfl) (da_cons dt_int (da_cons (dt_i0 (dt_var rfl) dt_int) da_nil))) ⟨r.a, 0, n - 1, rfl, bt a0 (by omega)⟩)) (db_nt (dt_call (da_cons (dt_var rfl) (da_cons dt_int (da_cons (dt_i0 (dt_var rfl) dt_int) da_nil))) ⟨r.b, 0, n - 1, rfl, bt (by omega) bn⟩))) ?_
  refine ds_ret (dt_andV_t (b := true) ?_ (dt_andV_t (b := true) (dt_call (da_cons (dt_var rfl) (da_cons dt_int (da_cons dt_int da_nil))) ⟨r.h, 1, 4, rfl, bt h1 h4⟩) (dt_call (da_cons (dt_var rfl) (da_cons dt_int (da_cons dt_int da_nil))) ⟨r.m, 0, 3, rfl, bt m0 m3⟩)))
  have q : DT K (tOp (rI0 fun i j => V.bl (decide (i < j))) (tVar 2) (tVar 3)) [some (.dat (.int n)), some (.dat (roadD r)), some (.dat (.int r.a)), some (.dat (.int r.b)), some (.dat (.int r.h)), some (.dat (.int r.m))] [] (.dat (.bl (decide (r.a < r.b)))) [] := dt_i0b (dt_var rfl) (dt_var rfl)
  rw [decide_eq_true ab] at q
  exact q
theorem ok_are_roads (T : Txt w K mg) : FnOk P w K mg base CX0 4 T.a_are_roads T.fd_are_roads ["places", "roads"] (spP K 2 (isTrue fun ds => ∃ M : MapD, ds = [.int M.places, .tup (M.roads.map roadD)] ∧ M.Ok)) := by
  refine fnP T.F_are_roads sc_are_roads rfl (fun cdv A outer s H E hr => ?_)
  refine ⟨_, (pss_cons (ps_if (PW.pt (pw_or (pt_not (pt_val (pe_callB (callIsi K) (by rfl) T.n_isinstance (by decide +kernel) (pa_cons (pv 1) (pa_cons (pe_bltn (v := .ty "tuple") (by rfl) T.n_tuple (by decide +kernel) rfl) pa_nil))))) (pw_or1 (pt_not (pt_chain op_le op_le pe_int (pe_callB (callLen K) (by rfl) T.n_len PySem.boot_len (pa_cons (pv 1) pa_nil)) (pe_globI (by rfl) T.k_MOST_ROADS)))))) (pss_one (ps_ret pe_bl)) pss_nil)
  (pss_cons (ps_if (pt_not (pt_val (pe_callB (crAll K) (by rfl) T.n_all (by decide +kernel) (pa_cons (pe_lc (own := [("road", 2)]) rfl sc_are_roads.nd (piTup K (pv 1)) (blkOk_by (own := [("road", 2)]) (N := ["places", "roads", "road", "at"]) (sc := defScope s_are_roads) (by decide +kernel)) (fun _ _ _ _ _ => (pg_name (i := 2) sc_are_roads.nd rfl (.inl rfl))) (fun _ _ _ _ _ => pts_nil) (fun _ _ _ _ _ => (pe_call (ok_is_road T) (hr.mono (by decide)) (by rfl) T.g_is_road T.F_is_road.kp T.b_is_road .nil pass0 (pa_cons (pv 0) (pa_cons (pv 2) pa_nil))))) pa_nil)))) (pss_one (ps_ret pe_bl)) pss_nil)
  (pss_one (ps_ret (pe_callB (crAll K) (by rfl) T.n_all (by decide +kernel) (pa_cons (pe_lc (own := [("at", 3)]) rfl sc_are_roads.nd (pi_range1 (by rfl) T.n_range (pa_cons (pe_op op_sub (pe_callB (callLen K) (by rfl) T.n_len PySem.boot_len (pa_cons (pv 1) pa_nil)) pe_int) pa_nil)) (blkOk_by (own := [("at", 3)]) (N := ["places", "roads", "road", "at"]) (sc := defScope s_are_roads) (by decide +kernel)) (fun _ _ _ _ _ => (pg_name (i := 3) sc_are_roads.nd rfl (.inl rfl))) (fun _ _ _ _ _ => pts_nil) (fun _ _ _ _ _ => (pe_cmpR (opLtT K hr.units0) (pe_ix (ixT K) (pv 1) (pv 3) (fun _ _ => rfl)) (pe_ix (ixT K) (pv 1) (pe_op op_add (pv 3) pe_int) (fun _ _ => rfl)) (nomark _)))) pa_nil)))))), ?_⟩
  rintro ds d ⟨⟨M, rfl, h⟩, rfl⟩ -
  have r1 := h.r1
  have r7 := h.r7
  have e : (M.roads.map roadD).length = M.roads.length := List.length_map _
  refine .rt (ds_guard (m1 := []) (db_or_f (m1 := []) (db_nt (dt_isi (dt_var rfl) rfl (by decide +kernel))) ?_) ?_)
  · have q : DB K (tNot (tTest (tChain (rI0 fun i j => V.bl (decide (i ≤ j))) (rI0 fun i j => V.bl (decide (i ≤ j))) (tC (.int 1)) (tCB _ (tCons (tVar 1) tNil)) (tC (.int 7))))) [some (.dat (.int M.places)), some (.dat (.tup (M.roads.map roadD))), none, none] [] (!(decide ((1 : Int) ≤ ((M.roads.map roadD).length : Int)) && decide (((M.roads.map roadD).length : Int) ≤ 7))) [] :=
      db_not (db_test (dt_chain dt_int (dt_lenT (dt_var rfl)) dt_int))
    rw [decide_eq_true (show (1 : Int) ≤ ((M.roads.map roadD).length : Int) by omega), decide_eq_true (show ((M.roads.map roadD).length : Int) ≤ 7 by omega)] at q
    exact q
  refine ds_guard (db_nt (dt_allT (di_tup (dt_var rfl)) (by omega) fun i hi => ?_)) ?_
  · rw [e] at hi
    refine ⟨_, _, dg_name, by decide, ?_⟩
    rw [nth_map roadD hi ⟨0, 0, 0, 0⟩]
    refine dt_call (da_cons (dt_var rfl) (da_cons (dt_var rfl) da_nil)) ⟨⟨M.places, _, rfl, h.rd _ ?_⟩, rfl⟩
    rw [List.getD_eq_getElem?_getD, List.getElem?_eq_getElem hi]
    exact List.getElem_mem hi
  · refine ds_ret (dt_allT (di_rng1 (da_cons (dt_i0 (dt_lenT (dt_var rfl)) dt_int) da_nil) (by omega) (by omega)) (by omega) fun i hi => ?_)
    refine ⟨_, _, dg_name, by decide, ?_⟩
    have hi2 : i + 1 < M.roads.length := by omega
    have q : DT K (tOp (rLtT K) (tOp (rIxT K) (tVar 1) (tVar 3)) (tOp (rIxT K) (tVar 1) (tOp (rI0 fun i j => V.int (i + j)) (tVar 3) (tC (.int 1))))) [some (.dat (.int M.places)), some (.dat (.tup (M.roads.map roadD))), none, some (.dat (.int (0 + (i : Nat))))] [] (.dat (.bl (HT.lexLt (M.road i).row (M.road (i + 1)).row))) [] := by
      refine dt_ltT (dt_ixT (dt_var rfl) (dt_var rfl) ?_) (dt_ixT (dt_var rfl) (dt_i0 (dt_var rfl) dt_int) ?_)
      · rw [Int.zero_add]
        exact road_at (by omega)
      · have e2 : (0 : Int) + (i : Nat) + 1 = ((i + 1 : Nat) : Int) := by omega
        rw [e2]
        exact road_at hi2
    rw [h.asc i hi2] at q
    exact q
theorem ok_are_prices (T : Txt w K mg) : FnOk P w K mg base CX0 3 T.a_are_prices T.fd_are_prices ["places", "prices"] (spP K 2 (isTrue fun ds => ∃ M : MapD, ds = [.int M.places, .tup (M.prices.map optD)] ∧ M.Ok)) := by
  refine fnP T.F_are_prices sc_are_prices rfl (fun cdv A outer s H E hr => ?_)
  refine ⟨_, (pss_cons (ps_if (pt_not (pt_val (pe_call (ok_is_group T) (hr.mono (by decide)) (by rfl) T.g_is_group T.F_is_group.kp T.b_is_group .nil pass0 (pa_cons (pv 1) (pa_cons (pv 0) pa_nil))))) (pss_one (ps_ret pe_bl)) pss_nil)
  (pss_one (ps_ret (pe_callB (crAll K) (by rfl) T.n_all (by decide +kernel) (pa_cons (pe_lc (own := [("price", 2)]) rfl sc_are_prices.nd (piTup K (pv 1)) (blkOk_by (own := [("price", 2)]) (N := ["places", "prices", "price"]) (sc := defScope s_are_prices) (by decide +kernel)) (fun _ _ _ _ _ => (pg_name (i := 2) sc_are_prices.nd rfl (.inl rfl))) (fun _ _ _ _ _ => pts_nil) (fun _ _ _ _ _ => (pe_or (pe_cmp (pc_isN (pv 2)) rfl) (pe_one (pe_call (ok_is_between T) (hr.mono (by decide)) (by rfl) T.g_is_between T.F_is_between.kp T.b_is_between .nil pass0 (pa_cons (pv 2) (pa_cons pe_int (pa_cons (pe_globI (by rfl) T.k_MOST_PRICE) pa_nil)))))))) pa_nil))))), ?_⟩
  rintro ds d ⟨⟨M, rfl, h⟩, rfl⟩ -
  have p5 := h.p5
  have pl := h.pl
  have e : (M.prices.map optD).length = M.prices.length := List.length_map _
  refine .rt (ds_guard (db_nt (dt_call (da_cons (dt_var rfl) (da_cons (dt_var rfl) da_nil)) ⟨_, _, rfl, gt (by rw [e]; exact pl)⟩)) ?_)
  refine ds_ret (dt_allT (di_tup (dt_var rfl)) (by omega) fun i hi => ⟨_, _, dg_name, by decide, ?_⟩)
  rw [e] at hi
  rw [nth_map optD hi none]
  have hm : M.prices.getD i none ∈ M.prices := by
    rw [List.getD_eq_getElem?_getD, List.getElem?_eq_getElem hi]
    exact List.getElem_mem hi
  cases q : M.prices.getD i none with
  | none => exact dt_orV_t (dt_isN (d := .non) (dt_var rfl))
  | some x =>
    obtain ⟨h1, h2⟩ := h.pr _ hm x q
    exact dt_orV_f (dt_isN (d := .int x) (dt_var rfl)) (dt_call (da_cons (dt_var rfl) (da_cons dt_int (da_cons dt_int da_nil))) ⟨x, 1, 9, rfl, bt h1 h2⟩)
theorem ok_is_box (T : Txt w K mg) : FnOk P w K mg base CX0 3 T.a_is_box T.fd_is_box ["box"] (spP K 1 (isTrue fun ds => ∃ M : MapD, ds = [.tup [.int M.room, .int M.bear]] ∧ M.Ok)) := by
  refine fnP T.F_is_box sc_is_box rfl (fun cdv A outer s H E hr => ?_)
  refine ⟨_, (pss_one (ps_ret (pe_and (pe_call (ok_is_group T) (hr.mono (by decide)) (by rfl) T.g_is_group T.F_is_group.kp T.b_is_group .nil pass0 (pa_cons (pv 0) (pa_cons pe_int pa_nil))) (pe_and (pe_call (ok_is_between T) (hr.mono (by decide)) (by rfl) T.g_is_between T.F_is_between.kp T.b_is_between .nil pass0 (pa_cons (pe_ix (ixT K) (pv 0) pe_int (fun _ _ => rfl)) (pa_cons pe_int (pa_cons (pe_globI (by rfl) T.k_MOST_ROOM) pa_nil)))) (pe_one (pe_call (ok_is_between T) (hr.mono (by decide)) (by rfl) T.g_is_between T.F_is_between.kp T.b_is_between .nil pass0 (pa_cons (pe_ix (ixT K) (pv 0) pe_int (fun _ _ => rfl)) (pa_cons pe_int (pa_cons (pe_globI (by rfl) T.k_MOST_BEAR) pa_nil))))))))), ?_⟩
  rintro ds d ⟨⟨M, rfl, h⟩, rfl⟩ -
  have m1 := h.m1
  have m6 := h.m6
  have b0 := h.b0
  have b2 := h.b2
  exact .rt (ds_ret (dt_andV_t (b := true) (dt_call (da_cons (dt_var rfl) (da_cons dt_int da_nil)) ⟨_, _, rfl, rfl⟩)
    (dt_andV_t (b := true) (dt_call (da_cons (dt_ixT (dt_var rfl) dt_int rfl) (da_cons dt_int (da_cons dt_int da_nil))) ⟨M.room, 1, 6, rfl, bt m1 m6⟩) (dt_call (da_cons (dt_ixT (dt_var rfl) dt_int rfl) (da_cons dt_int (da_cons dt_int da_nil))) ⟨M.bear, 0, 2, rfl, bt b0 b2⟩))))
/-! ### Map(..) -/
def R_init (C : Addr) (m : Mc) (ds : List D) (d : D) (m' : Mc) : Prop := ∃ M : MapD, M.Ok ∧ m = .obj C [] ∧ ds = [.int M.places, .tup (M.roads.map roadD), .tup (M.prices.map optD), .tup [.int M.room, .int M.bear]] ∧ d = .non ∧ m' = .obj C (mapFs M)
theorem ok_Map___init__ (T : Txt w K mg) : FnOk P w K mg base CX0 5 T.a_Map___init__ T.fd_Map___init__ ["self", "places", "roads", "prices", "box"] (spO K 5 (R_init T.C_Map)) := by
  refine fnO T.F_Map___init__ sc_Map___init__ rfl (fun cdv A outer s H E hr => ?_)
  refine ⟨_, (pss_cons (ps_if (pt_not (pt_val (pe_call (ok_is_between T) (hr.mono (by decide)) (by rfl) T.g_is_between T.F_is_between.kp T.b_is_between .nil pass0 (pa_cons (pv 1) (pa_cons pe_int (pa_cons (pe_globI (by rfl) T.k_MOST_PLACES) pa_nil)))))) (pss_one ps_never) pss_nil)
  (pss_cons (ps_if (pt_not (pt_val (pe_call (ok_are_roads T) (hr.mono (by decide)) (by rfl) T.g_are_roads T.F_are_roads.kp T.b_are_roads .nil pass0 (pa_cons (pv 1) (pa_cons (pv 2) pa_nil))))) (pss_one ps_never) pss_nil)
  (pss_cons (ps_if (pt_not (pt_val (pe_call (ok_are_prices T) (hr.mono (by decide)) (by rfl) T.g_are_prices T.F_are_prices.kp T.b_are_prices .nil pass0 (pa_cons (pv 1) (pa_cons (pv 3) pa_nil))))) (pss_one ps_never) pss_nil)
  (pss_cons (ps_if (pt_not (pt_val (pe_call (ok_is_box T) (hr.mono (by decide)) (by rfl) T.g_is_box T.F_is_box.kp T.b_is_box .nil pass0 (pa_cons (pv 4) pa_nil)))) (pss_one ps_never) pss_nil)
  (pss_cons (ps_fld (pv 0) (pv 1) rfl)
  (pss_cons (ps_fld (pv 0) (pv 2) rfl)
  (pss_cons (ps_fld (pv 0) (pv 3) rfl)
  (pss_one (ps_fld (pv 0) (pv 4) rfl))))))))), ?_⟩
  rintro m ds d m' ⟨M, h, rfl, rfl, rfl, rfl⟩ -
  have p2 := h.p2
  have p5 := h.p5
  refine .nx (s := [some (.own 0), some (.dat (.int M.places)), some (.dat (.tup (M.roads.map roadD))), some (.dat (.tup (M.prices.map optD))), some (.dat (.tup [.int M.room, .int M.bear]))]) ?_
  refine ds_guard (db_nt (dt_call (da_cons (dt_var rfl) (da_cons dt_int (da_cons dt_int da_nil))) ⟨M.places, 2, 5, rfl, bt p2 p5⟩)) ?_
  refine ds_guard (db_nt (dt_call (da_cons (dt_var rfl) (da_cons (dt_var rfl) da_nil)) ⟨⟨M, rfl, h⟩, rfl⟩)) ?_
  refine ds_guard (db_nt (dt_call (da_cons (dt_var rfl) (da_cons (dt_var rfl) da_nil)) ⟨⟨M, rfl, h⟩, rfl⟩)) ?_
  refine ds_guard (db_nt (dt_call (da_cons (dt_var rfl) da_nil) ⟨⟨M, rfl, h⟩, rfl⟩)) ?_
  refine ds_seq (ds_fld (n := 0) (dt_var rfl) (dt_var rfl) rfl T.cl T.na_Map__places (Nat.le_of_ble_eq_true rfl)) ?_
  refine ds_seq (ds_fld (n := 0) (dt_var rfl) (dt_var rfl) rfl T.cl T.na_Map__roads (Nat.le_of_ble_eq_true rfl)) ?_
  refine ds_seq (ds_fld (n := 0) (dt_var rfl) (dt_var rfl) rfl T.cl T.na_Map__prices (Nat.le_of_ble_eq_true rfl)) ?_
  exact ds_fld (n := 0) (m2 := [.obj T.C_Map [("_places", .int M.places), ("_roads", .tup (M.roads.map roadD)), ("_prices", .tup (M.prices.map optD))]]) (dt_var rfl) (dt_var rfl) rfl T.cl T.na_Map__box (Nat.le_of_ble_eq_true rfl)
/-! ### states, moves -/
def R_is_state (C : Addr) : List D → Prop := fun ds => ∃ M s, ds = [mapD C M, stD s] ∧ s.Ok M
theorem ok_is_state (T : Txt w K mg) : FnOk P w K mg base CX0 3 T.a_is_state T.fd_is_state ["chart", "state"] (spP K 2 (isTrue (R_is_state T.C_Map))) := by
  refine fnP T.F_is_state sc_is_state rfl (fun cdv A outer s H E hr => ?_)
  refine ⟨_, (pss_cons (ps_if (pt_not (pt_val (pe_call (ok_is_group T) (hr.mono (by decide)) (by rfl) T.g_is_group T.F_is_group.kp T.b_is_group .nil pass0 (pa_cons (pv 1) (pa_cons pe_int pa_nil))))) (pss_one (ps_ret pe_bl)) pss_nil)
  (pss_cons (ps_asg (pe_prop (pv 0) T.cl T.PO_box (get_box (k := 0) T) (hr.mono (by decide)) T.b_Map_box .nil pass0 rfl) (pgTup K 2 (pgs_cons (pg_name (i := 2) sc_is_state.nd rfl (.inl rfl)) (pgs_cons (pg_name (i := 3) sc_is_state.nd rfl (.inl rfl)) pgs_nil))))
  (pss_cons (ps_set (i := 4) sc_is_state.nd rfl (.inl rfl) (pe_tup (pa_cons (pe_op op_sub (pe_prop (pv 0) T.cl T.PO_places (get_places (k := 0) T) (hr.mono (by decide)) T.b_Map_places .nil pass0 rfl) pe_int) (pa_cons (pv 2) (pa_cons (pv 3) (pa_cons (pe_globI (by rfl) T.k_MOST_LATE) pa_nil))))))
  (pss_one (ps_ret (pe_callB (crAll K) (by rfl) T.n_all (by decide +kernel) (pa_cons (pe_lc (own := [("part", 5), ("top", 6)]) rfl sc_is_state.nd (RZ.pi_zipA (by rfl) T.n_zip (pa_cons (pv 1) (pa_cons (pv 4) pa_nil))) (blkOk_by (own := [("part", 5), ("top", 6)]) (N := ["chart", "state", "room", "bear", "tops", "part", "top"]) (sc := defScope s_is_state) (by decide +kernel)) (fun _ _ _ _ _ => (pgTup K 2 (pgs_cons (pg_name (i := 5) sc_is_state.nd rfl (.inl rfl)) (pgs_cons (pg_name (i := 6) sc_is_state.nd rfl (.inl rfl)) pgs_nil)))) (fun _ _ _ _ _ => pts_nil) (fun _ _ _ _ _ => (pe_call (ok_is_between T) (hr.mono (by decide)) (by rfl) T.g_is_between T.F_is_between.kp T.b_is_between .nil pass0 (pa_cons (pv 5) (pa_cons pe_int (pa_cons (pv 6) pa_nil)))))) pa_nil))))))), ?_⟩
  rintro ds d ⟨⟨M, s, rfl, h⟩, rfl⟩ -
  refine .rt (ds_guard (db_nt (dt_call (da_cons (dt_var rfl) (da_cons dt_int da_nil)) ⟨_, _, rfl, rfl⟩)) ?_)
  refine ds_seq (ds_asg (dt_prop (dt_var rfl) rfl) (dg_tup (dgs_cons dg_name (dgs_cons dg_name dgs_nil)) rfl)) ?_
  refine ds_seq (ds_set (dt_tup (da_cons (dt_i0 (dt_prop (dt_var rfl) rfl) dt_int) (da_cons (dt_var rfl) (da_cons (dt_var rfl) (da_cons dt_int da_nil)))))) ?_
  refine ds_ret (dt_allT (di_zipT (da_cons (dt_var rfl) (da_cons (dt_var rfl) da_nil)) rfl) (by exact Nat.le_of_ble_eq_true rfl) fun i hi => ⟨_, _, dg_tup (dgs_cons dg_name (dgs_cons dg_name dgs_nil)) rfl, by decide, ?_⟩)
  have hi4 : i < 4 := hi
  match i, hi4 with
  | 0, _ => exact dt_call (da_cons (dt_var rfl) (da_cons dt_int (da_cons (dt_var rfl) da_nil))) ⟨s.p, 0, M.places - 1, rfl, bt h.p0 h.p1⟩
  | 1, _ => exact dt_call (da_cons (dt_var rfl) (da_cons dt_int (da_cons (dt_var rfl) da_nil))) ⟨s.i, 0, M.room, rfl, bt h.i0 h.i1⟩
  | 2, _ => exact dt_call (da_cons (dt_var rfl) (da_cons dt_int (da_cons (dt_var rfl) da_nil))) ⟨s.w, 0, M.bear, rfl, bt h.w0 h.w1⟩
  | 3, _ => exact dt_call (da_cons (dt_var rfl) (da_cons dt_int (da_cons (dt_var rfl) da_nil))) ⟨s.l, 0, 4, rfl, bt h.l0 h.l1⟩
theorem flatAll_of {n : Nat} : ∀ {ds : List D}, (∀ d ∈ ds, D.flat n d = true) → D.flatAll n ds = true
  | [], _ => by simp [D.flatAll]
  | d :: ds, h => by
    rw [D.flatAll, Bool.and_eq_true]
    exact ⟨h d List.mem_cons_self, flatAll_of fun x hx => h x (List.mem_cons_of_mem _ hx)⟩
theorem moves_mem {M : MapD} {s : StD} {d : D} (h : d ∈ M.moves s) : ∃ p r, d = mvD p r ∧ r ∈ M.lead s.p := by
  unfold MapD.moves at h
  obtain ⟨i, _, h2⟩ := List.mem_flatMap.mp h
  obtain ⟨r, h3, h4⟩ := List.mem_map.mp h2
  exact ⟨i, r, h4.symm, h3⟩
theorem flat_mv (p r : Nat) (n : Nat) : D.flat (n + 1) (mvD p r) = true := by
  cases n <;> simp [mvD, D.flat, D.flatAll]
theorem flat_moves (M : MapD) (s : StD) : D.flat 3 (.lst (M.moves s)) = true := by
  rw [D.flat]
  exact flatAll_of fun d hd => by
    obtain ⟨p, r, rfl, _⟩ := moves_mem hd
    exact flat_mv p r 1
def R_is_move (C : Addr) : List D → Prop := fun ds => ∃ M s p r, ds = [mapD C M, stD s, mvD p r] ∧ InR M s ∧ mvD p r ∈ M.moves s
/-! ### checks -/
def isNone (Q : List D → Prop) (ds : List D) (d : D) : Prop := Q ds ∧ d = .non
theorem ok_check_map (T : Txt w K mg) : FnOk P w K mg base CX0 1 T.a_check_map T.fd_check_map ["chart"] (spP K 1 (isNone fun ds => ∃ M, ds = [mapD T.C_Map M])) := by
  refine fnP T.F_check_map sc_check_map rfl (fun cdv A outer s H E hr => ?_)
  refine ⟨_, (pss_one (ps_if (pt_not (pt_val (pe_callB (callIsi K) (by rfl) T.n_isinstance (by decide +kernel) (pa_cons (pv 0) (pa_cons (pe_glob (v := .ref T.C_Map) (by rfl) T.g_Map rfl) pa_nil))))) (pss_one ps_never) pss_nil)), ?_⟩
  rintro ds d ⟨⟨M, rfl⟩, rfl⟩ -
  exact .nx (ds_if_f (db_nt (dt_isiC (dt_var rfl) T.T_Map)) ds_next)
theorem ok_check_state (T : Txt w K mg) : FnOk P w K mg base CX0 4 T.a_check_state T.fd_check_state ["chart", "state"] (spP K 2 (isNone (R_is_state T.C_Map))) := by
  refine fnP T.F_check_state sc_check_state rfl (fun cdv A outer s H E hr => ?_)
  refine ⟨_, (pss_one (ps_if (pt_not (pt_val (pe_call (ok_is_state T) (hr.mono (by decide)) (by rfl) T.g_is_state T.F_is_state.kp T.b_is_state .nil pass0 (pa_cons (pv 0) (pa_cons (pv 1) pa_nil))))) (pss_one ps_never) pss_nil)), ?_⟩
  rintro ds d ⟨⟨M, s, rfl, h⟩, rfl⟩ -
  exact .nx (ds_if_f (db_nt (dt_call (da_cons (dt_var rfl) (da_cons (dt_var rfl) da_nil)) ⟨⟨M, s, rfl, h⟩, rfl⟩)) ds_next)
end
end K34
end
section
set_option Elab.async false
set_option linter.all false
set_option maxRecDepth 100000
set_option maxHeartbeats 4000000
namespace K34
open PySem PySem.Spec PyProof.Rows L2 DL
/-! ### heights: what the program asks of them -/
def StD.row (s : StD) : List Int := [s.p, s.i, s.w, s.l]
def stO : Option StD → D
  | none => .non
  | some s => stD s
def endS (M : MapD) (r : Road) (l : Int) (x : Int × Int) (more : Nat) : Option StD := if x.2 ≤ M.bear then some ⟨r.b, x.1, x.2, l - more⟩ else none
def MapD.endsS (M : MapD) (s : StD) (pieces : Nat) (road : Nat) : List (Option StD) :=
  (List.range (s.l + 1).toNat).map fun more => endS M (M.road road) s.l (hours (M.road road).m (s.i + pieces, s.w) ((M.road road).h.toNat + more)) more
theorem ends_eq (M : MapD) (s : StD) (p r : Nat) : M.ends s p r = (M.endsS s p r).map stO := by
  unfold MapD.ends MapD.endsS
  rw [List.map_map]
  refine List.map_congr_left fun more _ => ?_
  unfold endD endS
  show _ = stO (if _ then _ else _)
  split <;> rfl
/-- the moves as pairs -/
def MapD.mv (M : MapD) (s : StD) : List (Nat × Nat) := (List.range (M.most s + 1).toNat).flatMap fun i => (M.lead s.p).map fun r => (i, r)
theorem moves_eq (M : MapD) (s : StD) : M.moves s = (M.mv s).map fun m => mvD m.1 m.2 := by
  unfold MapD.moves MapD.mv
  rw [List.map_flatMap]
  refine congrArg (fun f => List.flatMap f _) (funext fun i => ?_)
  rw [List.map_map]
  rfl
def MapD.feeAt (M : MapD) (p : Int) (pieces : Nat) : Int := match M.price p with
  | none => 0
  | some x => pieces * x
def MapD.fee (M : MapD) (s : StD) (pieces : Nat) : Int := M.feeAt s.p pieces
def MapD.done (M : MapD) (s : StD) : Bool := decide (s.p = M.places - 1)
def within (hs : List (List Int × Int)) (most : Int) (e : Option StD) : Bool := match e with
  | none => false
  | some s => match lookI hs s.row with
    | none => false
    | some h => decide (h ≤ most)
def heightOk (M : MapD) (hs : List (List Int × Int)) (s : StD) : Bool :=
  let h := (lookI hs s.row).getD 0
  !decide (h < 0) && (M.done s || (M.mv s).any fun m => (M.endsS s m.1 m.2).all (within hs (h - M.fee s m.1)))
theorem getD_toD (ls : List (List Int × Int)) (r : List Int) : (getI (toD ls) r).getD (.int 0) = .int ((lookI ls r).getD 0) := by
  rw [getI_toD]
  cases lookI ls r <;> rfl
section
variable {P : Program} {w : World} {K : PySem.W.Frag} {mg : Str → Option Value} {base : Heap} {k : Nat}
def R_is_done (C : Addr) (ds : List D) (d : D) : Prop := ∃ M s, ds = [mapD C M, stD s] ∧ d = .bl (M.done s)
structure FeeOk (M : MapD) (s : StD) (p : Nat) : Prop where
  p0 : 0 ≤ s.p
  pn : s.p < M.prices.length
  p6 : p ≤ 6
  pr : ∀ x, M.price s.p = some x → 1 ≤ x ∧ x ≤ 9
def R_pieces_cost (C : Addr) (ds : List D) (d : D) : Prop := ∃ (M : MapD) (p : Int) (n : Nat), ds = [mapD C M, .int p, .int (n : Nat)] ∧ 0 ≤ p ∧ p < M.prices.length ∧ n ≤ 6 ∧ (∀ x, M.price p = some x → 1 ≤ x ∧ x ≤ 9) ∧ d = .int (M.feeAt p n)
def R_move_cost (C : Addr) (ds : List D) (d : D) : Prop := ∃ M s p r, ds = [mapD C M, stD s, mvD p r] ∧ FeeOk M s p ∧ d = .int (M.fee s p)
def reached (ls : List (List Int × Int)) (s : StD) (n : Int) : Bool := decide (n ≤ 0) || decide ((lookI ls s.row).getD 0 ≥ n)
def R_is_within (ds : List D) (d : D) : Prop := ∃ (hs : List (List Int × Int)) (s : StD) (most : Int), ds = [.dic (toD hs), stD s, .int most] ∧ d = .bl (within hs most (some s))
def R_is_reached (ds : List D) (d : D) : Prop := ∃ (ls : List (List Int × Int)) (s : StD) (n : Int), ds = [.dic (toD ls), stD s, .int n] ∧ d = .bl (reached ls s n)
def R_are_within (ds : List D) (d : D) : Prop := ∃ (hs : List (List Int × Int)) (es : List (Option StD)) (most : Int), ds = [.dic (toD hs), .lst (es.map stO), .int most] ∧ es.length ≤ 5 ∧ (∀ p ∈ hs, p.1 ∈ rows4) ∧ d = .bl (es.all (within hs most))
end
end K34
end
section
set_option Elab.async false
set_option linter.all false
set_option maxRecDepth 100000
set_option maxHeartbeats 4000000
namespace K34
open PySem PySem.Spec PyProof.Rows L2 DL
/-! ### roads in order, each once -/
def Road.code (r : Road) : Int := TS.code 64 r.row
def Road.Bd (r : Road) : Prop := TS.Bd 64 r.row
theorem code_eq (r : Road) : r.code = r.a * 262144 + r.b * 4096 + r.h * 64 + r.m := by
  show r.a * 64 ^ 3 + (r.b * 64 ^ 2 + (r.h * 64 ^ 1 + (r.m * 64 ^ 0 + 0))) = _
  have h3 : (64 : Int) ^ 3 = 262144 := by decide
  have h2 : (64 : Int) ^ 2 = 4096 := by decide
  have h1 : (64 : Int) ^ 1 = 64 := by decide
  have h0 : (64 : Int) ^ 0 = 1 := by decide
  rw [h3, h2, h1, h0]
  omega
theorem bd_all {r : Road} (h : r.Bd) : (0 ≤ r.a ∧ r.a < 64) ∧ (0 ≤ r.b ∧ r.b < 64) ∧ (0 ≤ r.h ∧ r.h < 64) ∧ (0 ≤ r.m ∧ r.m < 64) :=
  ⟨h r.a (by simp [Road.row]), h r.b (by simp [Road.row]), h r.h (by simp [Road.row]), h r.m (by simp [Road.row])⟩
theorem bd_of {r : Road} (h : (0 ≤ r.a ∧ r.a < 64) ∧ (0 ≤ r.b ∧ r.b < 64) ∧ (0 ≤ r.h ∧ r.h < 64) ∧ (0 ≤ r.m ∧ r.m < 64)) : r.Bd := fun m hm => by
  obtain ⟨h1, h2, h3, h4⟩ := h
  simp only [Road.row, List.mem_cons, List.not_mem_nil, or_false] at hm
  rcases hm with rfl | rfl | rfl | rfl
  · exact h1
  · exact h2
  · exact h3
  · exact h4
theorem code_inj {r s : Road} (hr : r.Bd) (hs : s.Bd) (e : r.code = s.code) : r = s := by
  obtain ⟨⟨a1, a2⟩, ⟨b1, b2⟩, ⟨c1, c2⟩, ⟨d1, d2⟩⟩ := bd_all hr
  obtain ⟨⟨a1', a2'⟩, ⟨b1', b2'⟩, ⟨c1', c2'⟩, ⟨d1', d2'⟩⟩ := bd_all hs
  rw [code_eq, code_eq] at e
  cases r
  cases s
  simp only [Road.mk.injEq] at *
  omega
theorem code_lex {r s : Road} (hr : r.Bd) (hs : s.Bd) (e : r.code < s.code) : HT.lexLt r.row s.row = true := by
  obtain ⟨⟨a1, a2⟩, ⟨b1, b2⟩, ⟨c1, c2⟩, ⟨d1, d2⟩⟩ := bd_all hr
  obtain ⟨⟨a1', a2'⟩, ⟨b1', b2'⟩, ⟨c1', c2'⟩, ⟨d1', d2'⟩⟩ := bd_all hs
  rw [code_eq, code_eq] at e
  simp only [Road.row, HT.lexLt]
  split
  · split
    · split
      · split
        · omega
        · exact decide_eq_true (by omega)
      · exact decide_eq_true (by omega)
    · exact decide_eq_true (by omega)
  · exact decide_eq_true (by omega)
def insR (x : Road) : List Road → List Road
  | [] => [x]
  | y :: l => if x.code < y.code then x :: y :: l else if x.code = y.code then y :: l else y :: insR x l
def sortRoads : List Road → List Road
  | [] => []
  | x :: l => insR x (sortRoads l)
theorem insR_mem {x : Road} (hx : x.Bd) : ∀ {l : List Road}, (∀ y ∈ l, y.Bd) → ∀ z, z ∈ insR x l ↔ z = x ∨ z ∈ l
  | [], _, z => by simp [insR]
  | y :: l, h, z => by
    unfold insR
    split
    · simp
    · split
      · rename_i e
        have exy : x = y := code_inj hx (h y List.mem_cons_self) e
        subst exy
        simp
      · have ih := insR_mem hx (l := l) (fun w hw => h w (List.mem_cons_of_mem _ hw)) z
        simp only [List.mem_cons, ih]
        constructor
        · rintro (h | h | h)
          · exact .inr (.inl h)
          · exact .inl h
          · exact .inr (.inr h)
        · rintro (h | h | h)
          · exact .inr (.inl h)
          · exact .inl h
          · exact .inr (.inr h)
theorem insR_ord {x : Road} (hx : x.Bd) : ∀ {l : List Road}, (∀ y ∈ l, y.Bd) → l.Pairwise (fun a b => a.code < b.code) → (insR x l).Pairwise (fun a b => a.code < b.code)
  | [], _, _ => List.Pairwise.cons (fun _ h => by cases h) .nil
  | y :: l, h, p => by
    have p' := List.pairwise_cons.mp p
    unfold insR
    split
    · rename_i e
      refine List.Pairwise.cons (fun z hz => ?_) p
      rcases List.mem_cons.mp hz with rfl | hz
      · exact e
      · have := p'.1 z hz
        omega
    · split
      · exact p
      · rename_i e1 e2
        refine List.Pairwise.cons (fun z hz => ?_) (insR_ord hx (fun w hw => h w (List.mem_cons_of_mem _ hw)) p'.2)
        rcases (insR_mem hx (fun w hw => h w (List.mem_cons_of_mem _ hw)) z).mp hz with rfl | hz
        · omega
        · exact p'.1 z hz
theorem sort_mem : ∀ {l : List Road}, (∀ y ∈ l, y.Bd) → ∀ z, z ∈ sortRoads l ↔ z ∈ l
  | [], _, z => by simp [sortRoads]
  | x :: l, h, z => by
    have hl : ∀ y ∈ l, y.Bd := fun y hy => h y (List.mem_cons_of_mem _ hy)
    unfold sortRoads
    rw [insR_mem (h x List.mem_cons_self) (fun y hy => hl y ((sort_mem hl y).mp hy)), sort_mem hl, List.mem_cons]
theorem sort_ord : ∀ {l : List Road}, (∀ y ∈ l, y.Bd) → (sortRoads l).Pairwise (fun a b => a.code < b.code)
  | [], _ => .nil
  | x :: l, h => by
    have hl : ∀ y ∈ l, y.Bd := fun y hy => h y (List.mem_cons_of_mem _ hy)
    exact insR_ord (h x List.mem_cons_self) (fun y hy => hl y ((sort_mem hl y).mp hy)) (sort_ord hl)
theorem strict_unique {α : Type} (f : α → Int) : ∀ (l l' : List α), l.Pairwise (fun a b => f a < f b) → l'.Pairwise (fun a b => f a < f b) → (∀ x, x ∈ l ↔ x ∈ l') → l = l'
  | [], [], _, _, _ => rfl
  | [], y :: l', _, _, h => by have := (h y).mpr List.mem_cons_self; cases this
  | x :: l, [], _, _, h => by have := (h x).mp List.mem_cons_self; cases this
  | x :: l, y :: l', p, p', h => by
    obtain ⟨p1, p2⟩ := List.pairwise_cons.mp p
    obtain ⟨q1, q2⟩ := List.pairwise_cons.mp p'
    have exy : x = y := by
      rcases List.mem_cons.mp ((h x).mp List.mem_cons_self) with e | e
      · exact e
      · rcases List.mem_cons.mp ((h y).mpr List.mem_cons_self) with e' | e'
        · exact e'.symm
        · have a := q1 x e
          have b := p1 y e'
          omega
    subst exy
    rw [strict_unique f l l' p2 q2 fun z => ⟨fun hz => ?_, fun hz => ?_⟩]
    · rcases List.mem_cons.mp ((h z).mp (List.mem_cons_of_mem _ hz)) with e | e
      · subst e
        have := p1 z hz
        omega
      · exact e
    · rcases List.mem_cons.mp ((h z).mpr (List.mem_cons_of_mem _ hz)) with e | e
      · subst e
        have := q1 z hz
        omega
      · exact e
theorem row_inj {r s : Road} (e : r.row = s.row) : r = s := by
  cases r
  cases s
  simp only [Road.row, List.cons.injEq, and_true] at e
  obtain ⟨rfl, rfl, rfl, rfl⟩ := e
  rfl
/-- what sorted(set(..)) gives is sortRoads -/
theorem sort_uniq {l : List Road} (h : ∀ y ∈ l, y.Bd) (out : List (List Int)) (S : SortSet 64 (l.map Road.row) out) : out = (sortRoads l).map Road.row := by
  have inj : ∀ a ∈ out, ∀ b ∈ out, TS.code 64 a = TS.code 64 b → a = b := fun a ha b hb e => by
    obtain ⟨r, hr, rfl⟩ := List.mem_map.mp ((S.mem a).mp ha)
    obtain ⟨s, hs, rfl⟩ := List.mem_map.mp ((S.mem b).mp hb)
    rw [code_inj (h r hr) (h s hs) e]
  refine strict_unique (TS.code 64) _ _ ?_ (by rw [List.pairwise_map]; exact sort_ord h) fun x => ?_
  · have both := List.Pairwise.and S.ord S.nd
    refine List.Pairwise.imp_of_mem (fun {a b} ha hb q => ?_) both
    have ne : TS.code 64 a ≠ TS.code 64 b := fun e => q.2 (inj a ha b hb e)
    have le := q.1
    omega
  · rw [S.mem]
    constructor
    · intro hx
      obtain ⟨r, hr, rfl⟩ := List.mem_map.mp hx
      exact List.mem_map_of_mem ((sort_mem h r).mpr hr)
    · intro hx
      obtain ⟨r, hr, rfl⟩ := List.mem_map.mp hx
      exact List.mem_map_of_mem ((sort_mem h r).mp hr)
end K34
end
section
set_option Elab.async false
set_option linter.all false
set_option maxRecDepth 100000
set_option maxHeartbeats 4000000
namespace K34
open PySem PySem.Spec PyProof.Rows L2 DL
/-! ### the law's draws, the second family -/
def primes : List Int := [1000003, 1000033, 1000037, 1000039, 1000081, 1000099, 1000117, 1000121, 1000133, 1000151, 1000159, 1000171, 1000183, 1000187, 1000193, 1000199]
def drawV (c k b : Int) : Int := (c * 48271 + k * 69621) % primes.getD (k % 16).toNat 0 % b
def absI (i : Int) : Int := if i < 0 then -i else i
def cellN (ns : List Int) (k : Int) : Int := if k < ns.length then absI (ns.getD k.toNat 0) else drawV (absI ns.sum + 7919 * k) k 999983
def mixN (c b t : Int) : Int := (drawV ((c + 977 * t) * (c + 31 * t + 5)) (t % 9 + 1) 999983 * 1000003 + drawV ((c + 31 * t) * (c + 7) + 977 * t) (t % 7 + 2) 1000003) % b
/-- what remains, and the numbers so far -/
def digS (c b : Int) : Nat → Int × List Int
  | 0 => (c - 10 ^ 18, [])
  | i + 1 => if 0 < (digS c b i).1 then ((digS c b i).1 / b, (digS c b i).2 ++ [(digS c b i).1 % b]) else ((digS c b i).1, (digS c b i).2 ++ [mixN c b (0 + (i : Nat))])
theorem digS_len (c b : Int) : ∀ i, (digS c b i).2.length = i
  | 0 => rfl
  | i + 1 => by
    have h := digS_len c b i
    unfold digS
    split
    · show ((digS c b i).2 ++ [_]).length = _
      rw [List.length_append, h]; rfl
    · show ((digS c b i).2 ++ [_]).length = _
      rw [List.length_append, h]; rfl
def digits (ns : List Int) (at_ b : Int) (n : Nat) : List Int := (digS (cellN ns at_) b n).2
theorem prime_pos : ∀ i : Nat, i < 16 → 0 < primes.getD i 0 := by decide
theorem drawV_bd {c k b : Int} (h : 0 < b) : 0 ≤ drawV c k b ∧ drawV c k b < b := ⟨Int.emod_nonneg _ (by omega), Int.emod_lt_of_pos _ h⟩
/-- a script's numbers are no longer than this -/
def Bits (ns : List Int) : Prop := ∀ n ∈ ns, Builtin.Int.intBits n ≤ 1048576
theorem cell_bits {ns : List Int} (hb : Bits ns) {k : Int} (h0 : 0 ≤ k) : Builtin.Int.intBits (cellN ns k) ≤ 1048576 := by
  unfold cellN
  by_cases h : k < ns.length
  · rw [if_pos h]
    have hm : ns.getD k.toNat 0 ∈ ns := by
      rw [List.getD_eq_getElem?_getD, List.getElem?_eq_getElem (by omega)]
      exact List.getElem_mem _
    refine intBits_le_of_natAbs ?_ (hb _ hm)
    unfold absI
    split <;> omega
  · rw [if_neg h]
    obtain ⟨d0, d1⟩ := drawV_bd (c := absI ns.sum + 7919 * k) (k := k) (b := 999983) (by decide)
    refine intBits_le_of_natAbs (y := 999983) ?_ (Nat.le_trans (intBits_le_64 (by decide) (by decide)) (by decide))
    show _ ≤ 999983
    omega
theorem mul_fine {c x y : Int} (hc : Builtin.Int.intBits c ≤ 1048576) (hx : -1000000 ≤ x) (hx2 : x ≤ 1000000) (hy : -1000000 ≤ y) (hy2 : y ≤ 1000000) : IntMulOk (c + x) (c + y) := by
  have b : ∀ z : Int, -1000000 ≤ z → z ≤ 1000000 → Builtin.Int.intBits (c + z) ≤ 1048577 := fun z h1 h2 =>
    Nat.le_trans (intBits_add_le hc (intBits_le_64 (by omega) (by omega))) (by decide)
  exact IntMulOk.of_le (b x hx hx2) (b y hy hy2) (by decide)
section
variable {P : Program} {w : World} {K : PySem.W.Frag} {mg : Str → Option Value} {base : Heap} {k : Nat}
theorem ok__law_draw (T : Txt w K mg) : FnOk P w K mg base CX0 1 T.a__law_draw T.fd__law_draw ["_law_cell", "_law_k", "_law_many"] (spP K 3 fun ds d => ∃ c k b : Int, ds = [.int c, .int k, .int b] ∧ 0 < b ∧ d = .int (drawV c k b)) := by
  refine fnP T.F__law_draw sc__law_draw rfl (fun cdv A outer s H E hr => ?_)
  refine ⟨_, (pss_cons (ps_set (i := 3) sc__law_draw.nd rfl (.inl rfl) (pe_tup (pa_cons pe_int (pa_cons pe_int (pa_cons pe_int (pa_cons pe_int (pa_cons pe_int (pa_cons pe_int (pa_cons pe_int (pa_cons pe_int (pa_cons pe_int (pa_cons pe_int (pa_cons pe_int (pa_cons pe_int (pa_cons pe_int (pa_cons pe_int (pa_cons pe_int (pa_cons pe_int pa_nil))))))))))))))))))
  (pss_one (ps_ret (pe_op op_mod (pe_op op_mod (pe_callTy call_int1 (by rfl) T.n_int (by decide +kernel) (pa_cons (pe_op op_add (pe_op op_mul (pv 0) pe_int) (pe_op op_mul (pv 1) pe_int)) pa_nil)) (pe_ix (ixT K) (pv 3) (pe_op op_mod (pv 1) pe_int) (fun _ _ => rfl))) (pv 2))))), ?_⟩
  rintro ds d ⟨c, k, b, rfl, hb, rfl⟩ -
  have k0 : 0 ≤ k % 16 := Int.emod_nonneg _ (by omega)
  have k1 : k % 16 < 16 := Int.emod_lt_of_pos _ (by omega)
  refine .rt (ds_seq (ds_set (dt_tup (ds := primes.map .int) (da_cons dt_int (da_cons dt_int (da_cons dt_int (da_cons dt_int (da_cons dt_int (da_cons dt_int (da_cons dt_int (da_cons dt_int (da_cons dt_int (da_cons dt_int (da_cons dt_int (da_cons dt_int (da_cons dt_int (da_cons dt_int (da_cons dt_int (da_cons dt_int da_nil)))))))))))))))))) ?_)
  refine ds_ret (dt_ic (dt_ic (dt_int1 (dt_i0 (dt_ic (dt_var rfl) dt_int (.inr ⟨by decide, by decide⟩)) (dt_ic (dt_var rfl) dt_int (.inr ⟨by decide, by decide⟩)))) (dt_ixT (dt_var rfl) (dt_ic (dt_var rfl) dt_int (show (0 : Int) < 16 by decide)) (atI_map D.int k0 (show k % 16 < (primes.length : Int) from k1) 0)) (prime_pos _ (by omega))) (dt_var rfl) hb)
theorem ok__law_cell_at (T : Txt w K mg) : FnOk P w K mg base CX0 2 T.a__law_cell_at T.fd__law_cell_at ["_law_script", "_law_k"] (spP K 2 fun ds d => ∃ (ns : List Int) (k : Int), ds = [.lst (ns.map .int), .int k] ∧ 0 ≤ k ∧ k ≤ 1000 ∧ d = .int (cellN ns k)) := by
  refine fnP T.F__law_cell_at sc__law_cell_at rfl (fun cdv A outer s H E hr => ?_)
  refine ⟨_, (pss_cons (ps_if (pt_cmpR op_lt (pv 1) (pe_callB (callLen K) (by rfl) T.n_len PySem.boot_len (pa_cons (pv 0) pa_nil)) (nomark _)) (pss_one (ps_ret (pe_callB callAbs (by rfl) T.n_abs (by decide +kernel) (pa_cons (pe_ix (ixL K) (pv 0) (pv 1) (fun _ _ => rfl)) pa_nil)))) pss_nil)
  (pss_one (ps_ret (pe_call (ok__law_draw T) (hr.mono (by decide)) (by rfl) T.g__law_draw T.F__law_draw.kp T.b__law_draw .nil pass0 (pa_cons (pe_op op_add (pe_callB callAbs (by rfl) T.n_abs (by decide +kernel) (pa_cons (pe_callB (callSum K rfl) (by rfl) T.n_sum (by decide +kernel) (pa_cons (pv 0) pa_nil)) pa_nil)) (pe_op op_mul pe_int (pv 1))) (pa_cons (pv 1) (pa_cons pe_int pa_nil))))))), ?_⟩
  rintro ds d ⟨ns, k, rfl, h0, h1, rfl⟩ -
  have hl : ((ns.map D.int).length : Int) = ns.length := by rw [List.length_map]
  refine .rt ?_
  unfold cellN
  by_cases h : k < ns.length
  · rw [if_pos h]
    refine ds_stop (ds_if (b := decide (k < ((ns.map D.int).length : Int))) (db_test (dt_i0b (dt_var rfl) (dt_lenL (dt_var rfl)))) ?_)
    rw [if_pos (decide_eq_true (by omega))]
    exact ds_ret (dt_abs (dt_ixL (dt_var rfl) (dt_var rfl) (atI_map D.int h0 h 0)))
  · rw [if_neg h]
    refine ds_seq (ss1 := [some (.dat (.lst (ns.map .int))), some (.dat (.int k))]) (m1 := []) (ds_if (b := decide (k < ((ns.map D.int).length : Int))) (db_test (dt_i0b (dt_var rfl) (dt_lenL (dt_var rfl)))) ?_) ?_
    · rw [if_neg (by rw [hl]; simpa using h)]
      exact ds_next
    · exact ds_ret (dt_call (da_cons (dt_i0 (dt_abs (dt_sumL (dt_var rfl))) (dt_ic dt_int (dt_var rfl) (.inl ⟨by decide, by decide⟩))) (da_cons (dt_var rfl) (da_cons dt_int da_nil))) ⟨_, k, 999983, rfl, by decide, rfl⟩)
def R_digits (ds : List D) (m : Mc) : Prop := ∃ (ns : List Int) (at_ b : Int) (n : Nat), ds = [.lst (ns.map .int), .int at_, .int (n : Nat), .int b] ∧ Bits ns ∧ 0 ≤ at_ ∧ at_ ≤ 1000 ∧ n ≤ 1000 ∧ 0 < b ∧ b < 1073741824 ∧ m = .lst ((digits ns at_ b n).map .int)
theorem ok__law_digits (T : Txt w K mg) : FnOk P w K mg base CX0 3 T.a__law_digits T.fd__law_digits ["_law_script", "_law_at", "_law_many", "_law_base"] (spN K 4 R_digits) := by
  refine fnN T.F__law_digits sc__law_digits rfl (fun cdv A outer s H E hr => ?_)
  refine ⟨_, (pss_cons (ps_par (i := 4) (j := 5) (by rfl) sc__law_digits.nd rfl rfl (by decide) rfl rfl (pa_cons (pe_call (ok__law_cell_at T) (hr.mono (by decide)) (by rfl) T.g__law_cell_at T.F__law_cell_at.kp T.b__law_cell_at .nil pass0 (pa_cons (pv 0) (pa_cons (pv 1) pa_nil))) (pa_cons (pe_lst pa_nil) pa_nil)) (by rfl))
  (pss_cons (ps_set (i := 6) sc__law_digits.nd rfl (.inl rfl) (pe_op op_sub (pv 4) (pe_op op_pow pe_int pe_int)))
  (pss_cons (ps_for PassesOwn.never rfl (pi_range1 (by rfl) T.n_range (pa_cons (pv 2) pa_nil)) (pg_name (i := 7) sc__law_digits.nd rfl (.inl rfl)) (pss_one (ps_if (pt_cmpR op_gt (pv 6) pe_int (nomark _)) (pss_cons (ps_expr (pe_bm PySem.F.plainAttrs_list PySem.F.slot_list_append PySem.F.type_list_append mt_append (pv 5) (pa_cons (pe_op op_mod (pe_callTy call_int1 (by rfl) T.n_int (by decide +kernel) (pa_cons (pv 6) pa_nil)) (pv 3)) pa_nil)))
  (pss_one (ps_set (i := 6) sc__law_digits.nd rfl (.inl rfl) (pe_op op_fdivW (pv 6) (pv 3))))) (pss_cons (ps_set (i := 8) sc__law_digits.nd rfl (.inl rfl) (pe_call (ok__law_draw T) (hr.mono (by decide)) (by rfl) T.g__law_draw T.F__law_draw.kp T.b__law_draw .nil pass0 (pa_cons (pe_op op_mulB (pe_op op_add (pv 4) (pe_op op_mulB pe_int (pv 7))) (pe_op op_add (pe_op op_add (pv 4) (pe_op op_mulB pe_int (pv 7))) pe_int)) (pa_cons (pe_op op_add (pe_op op_mod (pv 7) pe_int) pe_int) (pa_cons pe_int pa_nil)))))
  (pss_cons (ps_set (i := 9) sc__law_digits.nd rfl (.inl rfl) (pe_call (ok__law_draw T) (hr.mono (by decide)) (by rfl) T.g__law_draw T.F__law_draw.kp T.b__law_draw .nil pass0 (pa_cons (pe_op op_add (pe_op op_mulB (pe_op op_add (pv 4) (pe_op op_mulB pe_int (pv 7))) (pe_op op_add (pv 4) pe_int)) (pe_op op_mulB pe_int (pv 7))) (pa_cons (pe_op op_add (pe_op op_mod (pv 7) pe_int) pe_int) (pa_cons pe_int pa_nil)))))
  (pss_one (ps_expr (pe_bm PySem.F.plainAttrs_list PySem.F.slot_list_append PySem.F.type_list_append mt_append (pv 5) (pa_cons (pe_op op_mod (pe_callTy call_int1 (by rfl) T.n_int (by decide +kernel) (pa_cons (pe_op op_add (pe_op op_mulB (pv 8) pe_int) (pv 9)) pa_nil)) (pv 3)) pa_nil)))))))))
  (pss_one (ps_ret (pv 5)))))), ?_⟩
  rintro ds m ⟨ns, at_, b, n, rfl, hB, a0, a1, hn, b0, b1, rfl⟩ -
  have cb := cell_bits hB a0
  let c := cellN ns at_
  refine ⟨0, [.lst ((digits ns at_ b n).map .int)], ?_, rfl⟩
  let f : Nat → Sl := fun i => [some (.dat (.lst (ns.map .int))), some (.dat (.int at_)), some (.dat (.int (n : Nat))), some (.dat (.int b)), some (.dat (.int c)), some (.own 0), some (.dat (.int (digS c b i).1)), none, none, none]
  refine ds_seq (ds_parV (dav_cons (dt_call (da_cons (dt_var rfl) (da_cons (dt_var rfl) da_nil)) ⟨ns, at_, rfl, a0, a1, rfl⟩) (dav_cons (dt_lstO da_nil) dav_nil))) ?_
  refine ds_seq (ss1 := f 0) (m1 := [.lst ((digS c b 0).2.map .int)]) (ds_set (i := 6) (dt_i0 (dt_var rfl) (dt_ic dt_int dt_int ⟨by decide, by decide, by decide⟩))) ?_
  refine ds_seq (ss1 := f n) (m1 := [.lst ((digS c b n).2.map .int)]) ?_ (ds_ret (dt_var (i := 5) rfl))
  refine ds_forW [7, 8, 9] f (fun i => [.lst ((digS c b i).2.map .int)]) rfl (di_rng1 (j := ((n : Nat) : Int)) (da_cons (dt_var (i := 2) rfl) da_nil) (by omega) (by omega)) (fun _ => rfl) (fun _ => rfl) fun i hi => ?_
  have hi' : i < n := by omega
  have len : ((digS c b i).2.map D.int).length < 16777216 := by rw [List.length_map, digS_len]; omega
  by_cases h : 0 < (digS c b i).1
  · have e1 : digS c b (i + 1) = ((digS c b i).1 / b, (digS c b i).2 ++ [(digS c b i).1 % b]) := by
      show (if _ then _ else _) = _
      rw [if_pos h]
    refine ⟨(f (i + 1)).set 7 (some (.dat (.int (0 + (i : Nat))))), [], ?_, rfl⟩
    show DS K _ _ _ (.nx ((f (i + 1)).set 7 (some (.dat (.int (0 + (i : Nat)))))) [.lst ((digS c b (i + 1)).2.map .int)])
    show DS K _ _ _ (.nx [some (.dat (.lst (ns.map .int))), some (.dat (.int at_)), some (.dat (.int (n : Nat))), some (.dat (.int b)), some (.dat (.int c)), some (.own 0), some (.dat (.int (digS c b (i + 1)).1)), some (.dat (.int (0 + (i : Nat)))), none, none] [.lst ((digS c b (i + 1)).2.map .int)])
    rw [e1]
    generalize hq : digS c b i = q at h len
    have eq2 : f i = [some (.dat (.lst (ns.map .int))), some (.dat (.int at_)), some (.dat (.int (n : Nat))), some (.dat (.int b)), some (.dat (.int c)), some (.own 0), some (.dat (.int q.1)), none, none, none] := by rw [← hq]
    rw [eq2]
    refine ds_if_t (db_is (db_test (dt_i0b (dt_var rfl) dt_int)) (decide_eq_true h)) ?_
    have app : List.map D.int (q.2 ++ [q.1 % b]) = q.2.map D.int ++ [.int (q.1 % b)] := by rw [List.map_append]; rfl
    dsimp only
    rw [app]
    refine ds_seq (ds_drop (dt_append (n := 0) (m1 := [.lst (q.2.map D.int)]) (m2 := [.lst (q.2.map D.int)]) (dt_var rfl) (da_cons (dt_ic (dt_int1 (dt_var rfl)) (dt_var rfl) b0) da_nil) rfl rfl len)) ?_
    exact ds_set (i := 6) (dt_ic (dt_var rfl) (dt_var rfl) (wide_div (b := 30) b0 (by omega) (by decide) (by decide)))
  · have e1 : digS c b (i + 1) = ((digS c b i).1, (digS c b i).2 ++ [mixN c b (0 + (i : Nat))]) := by
      show (if _ then _ else _) = _
      rw [if_neg h]
    let t : Int := 0 + (i : Nat)
    have t0 : 0 ≤ t := by show (0 : Int) ≤ 0 + (i : Nat); omega
    have t1 : t < 1000 := by show (0 : Int) + (i : Nat) < 1000; omega
    let bl : Int := drawV ((c + 977 * t) * (c + 31 * t + 5)) (t % 9 + 1) 999983
    let mo : Int := drawV ((c + 31 * t) * (c + 7) + 977 * t) (t % 7 + 2) 1000003
    refine ⟨[some (.dat (.lst (ns.map .int))), some (.dat (.int at_)), some (.dat (.int (n : Nat))), some (.dat (.int b)), some (.dat (.int c)), some (.own 0), some (.dat (.int (digS c b (i + 1)).1)), some (.dat (.int t)), some (.dat (.int bl)), some (.dat (.int mo))], [], ?_, rfl⟩
    show DS K _ _ _ (.nx [some (.dat (.lst (ns.map .int))), some (.dat (.int at_)), some (.dat (.int (n : Nat))), some (.dat (.int b)), some (.dat (.int c)), some (.own 0), some (.dat (.int (digS c b (i + 1)).1)), some (.dat (.int t)), some (.dat (.int bl)), some (.dat (.int mo))] [.lst ((digS c b (i + 1)).2.map .int)])
    rw [e1]
    generalize hq : digS c b i = q at h len
    have eq2 : (f i).set 7 (some (.dat (.int (0 + (i : Nat))))) = [some (.dat (.lst (ns.map .int))), some (.dat (.int at_)), some (.dat (.int (n : Nat))), some (.dat (.int b)), some (.dat (.int c)), some (.own 0), some (.dat (.int q.1)), some (.dat (.int t)), none, none] := by rw [← hq]; rfl
    rw [eq2]
    have app : List.map D.int (q.2 ++ [mixN c b t]) = q.2.map D.int ++ [.int (mixN c b t)] := by rw [List.map_append]; rfl
    refine ds_if_f (db_is (db_test (dt_i0b (dt_var rfl) dt_int)) (decide_eq_false h)) ?_
    show DS K _ _ _ (.nx _ [.lst (List.map D.int (q.2 ++ [mixN c b t]))])
    rw [app]
    obtain ⟨d0, d1⟩ := drawV_bd (c := (c + 977 * t) * (c + 31 * t + 5)) (k := t % 9 + 1) (b := 999983) (by decide)
    have k9 : 0 ≤ t % 9 := Int.emod_nonneg _ (by decide)
    have ass : c + 31 * t + 5 = c + (31 * t + 5) := by omega
    have mf1 : IntMulOk (c + 977 * t) (c + 31 * t + 5) := by rw [ass]; exact mul_fine cb (by omega) (by omega) (by omega) (by omega)
    have mf2 : IntMulOk (c + 31 * t) (c + 7) := mul_fine cb (by omega) (by omega) (by omega) (by omega)
    have mk : ∀ j : Int, -(2 ^ 64) < j → j < 2 ^ 64 → ∀ i : Int, IntMulOk j i := fun j h1 h2 i => IntMulOk.of_left (intBits_le_64 h1 h2)
    refine ds_seq (ds_set (i := 8) (dt_call (da_cons (dt_ic (dt_i0 (dt_var (i := 4) rfl) (dt_ic dt_int (dt_var (i := 7) rfl) (mk _ (by decide) (by decide) _))) (dt_i0 (dt_i0 (dt_var (i := 4) rfl) (dt_ic dt_int (dt_var (i := 7) rfl) (mk _ (by decide) (by decide) _))) dt_int) mf1) (da_cons (dt_i0 (dt_ic (dt_var (i := 7) rfl) dt_int (show (0 : Int) < 9 by decide)) dt_int) (da_cons dt_int da_nil))) ⟨_, _, 999983, rfl, by decide, rfl⟩)) ?_
    refine ds_seq (ds_set (i := 9) (dt_call (da_cons (dt_i0 (dt_ic (dt_i0 (dt_var (i := 4) rfl) (dt_ic dt_int (dt_var (i := 7) rfl) (mk _ (by decide) (by decide) _))) (dt_i0 (dt_var (i := 4) rfl) dt_int) mf2) (dt_ic dt_int (dt_var (i := 7) rfl) (mk _ (by decide) (by decide) _))) (da_cons (dt_i0 (dt_ic (dt_var (i := 7) rfl) dt_int (show (0 : Int) < 7 by decide)) dt_int) (da_cons dt_int da_nil))) ⟨_, _, 1000003, rfl, by decide, rfl⟩)) ?_
    exact ds_drop (dt_append (n := 0) (m1 := [.lst (q.2.map D.int)]) (m2 := [.lst (q.2.map D.int)]) (dt_var (i := 5) rfl) (da_cons (dt_ic (dt_int1 (dt_i0 (dt_ic (dt_var (i := 8) rfl) dt_int (IntMulOk.of_right (intBits_le_64 (by decide) (by decide)))) (dt_var (i := 9) rfl))) (dt_var (i := 3) rfl) b0) da_nil) rfl rfl len)
/-! one number -/
/-- the number that is drawn when n were drawn before -/
def tk (ns : List Int) (n : Nat) (b : Int) : Int := if n < ns.length then ns.getD n 0 % b else 0
theorem tk_bd {ns : List Int} {n : Nat} {b : Int} (h : 0 < b) : 0 ≤ tk ns n b ∧ tk ns n b < b := by
  unfold tk
  split
  · exact ⟨Int.emod_nonneg _ (by omega), Int.emod_lt_of_pos _ h⟩
  · exact ⟨Int.le_refl _, h⟩
def drN (ns : List Int) (n : Nat) : Mc := .lst ((ns.drop n).map .int)
def R_take (m : Mc) (ds : List D) (d : D) (m' : Mc) : Prop := ∃ (ns : List Int) (n : Nat) (b : Int), m = drN ns n ∧ ds = [.int b] ∧ 0 < b ∧ d = .int (tk ns n b) ∧ m' = drN ns (n + 1)
theorem ok__law_take (T : Txt w K mg) : FnOk P w K mg base CX0 1 T.a__law_take T.fd__law_take ["_law_draws", "_law_many"] (spO K 2 R_take) := by
  refine fnO T.F__law_take sc__law_take rfl (fun cdv A outer s H E hr => ?_)
  refine ⟨_, (pss_one (ps_ret (pe_ifExp (pt_cmpR (opNeD K hr.units) (pv 0) (pe_lst pa_nil) (nomark _)) (pe_op op_mod (pe_callTy call_int1 (by rfl) T.n_int (by decide +kernel) (pa_cons (pe_bm PySem.F.plainAttrs_list PySem.F.slot_list_pop PySem.F.type_list_pop mt_popAt (pv 0) (pa_cons pe_int pa_nil)) pa_nil)) (pv 1)) pe_int))), ?_⟩
  rintro m ds d m' ⟨ns, n, b, rfl, rfl, hb, rfl, rfl⟩ -
  refine .rt (ds_ret ?_)
  have test := dt_neOL (K := K) (ss := [some (.own 0), some (.dat (.int b))]) (mem := [drN ns n]) (n := 2) (p := 0) (ta := tVar 0) (tb := tLst tNil) (ds := (ns.drop n).map .int) (es := []) (dt_var rfl) (dt_lst da_nil) rfl (flat_lints 1 _) rfl
  rw [eqv_nil] at test
  unfold tk
  by_cases h : n < ns.length
  · rw [if_pos h]
    have e : (ns.drop n).map D.int = .int (ns.getD n 0) :: (ns.drop (n + 1)).map .int := by
      rw [List.drop_eq_getElem_cons h, List.map_cons, List.getD_eq_getElem?_getD, List.getElem?_eq_getElem h]
      rfl
    rw [e] at test
    refine dt_if_t (db_test test) ?_
    refine dt_ic (dt_int1 (dt_pop0 (p := 0) (d := .int (ns.getD n 0)) (ds := (ns.drop (n + 1)).map .int) (dt_var rfl) ?_)) (dt_var rfl) hb
    show some (drN ns n) = _
    unfold drN
    rw [e]
  · rw [if_neg h]
    have e : ns.drop n = [] := List.drop_eq_nil_of_le (by omega)
    have e2 : ns.drop (n + 1) = [] := List.drop_eq_nil_of_le (by omega)
    rw [e] at test
    refine dt_if_f (db_test test) ?_
    unfold drN
    rw [e, e2]
    exact dt_int
end
section
variable {K : PySem.W.Frag} {ss : Sl} {mem m1 : List Mc}
theorem dt_take {ns : List Int} {n : Nat} {b : Int} {o : Nat} {E : XK} {tb to : TE} (ho : DT K to ss mem (.own o) mem) (hb : DT K tb ss mem (.dat (.int b)) m1) (hm : m1[o]? = some (drN ns n)) (h0 : 0 < b) :
    DT K (tCall (spO K 2 R_take) [] E (tCons to (tCons tb tNil))) ss mem (.dat (.int (tk ns n b))) (m1.set o (drN ns (n + 1))) :=
  dt_callO (dao_cons ho (da_cons hb da_nil)) hm (fun z => by cases z) ⟨ns, n, b, rfl, rfl, h0, rfl, rfl⟩
end
end K34
end
section
set_option Elab.async false
set_option linter.all false
set_option maxRecDepth 100000
set_option maxHeartbeats 4000000
namespace K34
open PySem PySem.Spec PyProof.Rows L2 DL
/-! ### pools and nets -/
def poolN (ns bs : List Int) (n : Nat) : List Int := (List.range n).flatMap fun i => digits ns (i : Nat) (bs.getD i 0) 150
theorem poolN_succ (ns bs : List Int) (n : Nat) : poolN ns bs (n + 1) = poolN ns bs n ++ digits ns (n : Nat) (bs.getD n 0) 150 := by
  unfold poolN
  rw [List.range_succ, List.flatMap_append]
  simp
theorem poolN_len (ns bs : List Int) : ∀ n, (poolN ns bs n).length = n * 150
  | 0 => rfl
  | n + 1 => by
    rw [poolN_succ, List.length_append, poolN_len ns bs n]
    unfold digits
    rw [digS_len]
    omega
def poolM (ns bs : List Int) : Nat → List Mc
  | 0 => [.lst []]
  | n + 1 => poolM ns bs n ++ [.lst ((digits ns (n : Nat) (bs.getD n 0) 150).map .int)] ++ [.lst ((poolN ns bs (n + 1)).map .int)]
theorem poolM_len (ns bs : List Int) : ∀ n, (poolM ns bs n).length = 2 * n + 1
  | 0 => rfl
  | n + 1 => by
    show (poolM ns bs n ++ [_] ++ [_]).length = _
    rw [List.length_append, List.length_append, poolM_len ns bs n]
    simp
    omega
theorem poolM_last (ns bs : List Int) : ∀ n, (poolM ns bs n)[2 * n]? = some (.lst ((poolN ns bs n).map .int))
  | 0 => rfl
  | n + 1 => by
    show (poolM ns bs n ++ [_] ++ [_])[_]? = _
    have e : (poolM ns bs n ++ [Mc.lst ((digits ns (n : Nat) (bs.getD n 0) 150).map D.int)]).length = 2 * (n + 1) := by
      rw [List.length_append, poolM_len]
      rfl
    rw [List.getElem?_append_right (by omega), e, Nat.sub_self]
    rfl
/-- so many roads from place to place: the counter, the roads -/
def netA (ns : List Int) (c : Nat) : Nat → Nat × List Road
  | 0 => (c, [])
  | i + 1 => if 0 < tk ns (netA ns c i).1 12 then ((netA ns c i).1 + 1 + 1 + 1, (netA ns c i).2 ++ [⟨0 + (i : Nat), 0 + (i : Nat) + 1, 1 + tk ns ((netA ns c i).1 + 1) 3, tk ns ((netA ns c i).1 + 1 + 1) 3⟩]) else ((netA ns c i).1 + 1, (netA ns c i).2)
def mkNet (ns : List Int) (many : Int) (c : Nat) : Road := ⟨tk ns c (many - 1), tk ns c (many - 1) + 1 + tk ns (c + 1) (many - 1 - tk ns c (many - 1)), 1 + tk ns (c + 1 + 1) 3, tk ns (c + 1 + 1 + 1) 4⟩
def netB (ns : List Int) (many : Int) (q : Nat × List Road) : Nat → Nat × List Road
  | 0 => q
  | i + 1 => ((netB ns many q i).1 + 1 + 1 + 1 + 1, (netB ns many q i).2 ++ [mkNet ns many (netB ns many q i).1])
def netF (ns : List Int) (c : Nat) : Nat → Nat × List (Option Int)
  | 0 => (c, [])
  | i + 1 => if tk ns (netF ns c i).1 4 = 0 then ((netF ns c i).1 + 1, (netF ns c i).2 ++ [none]) else ((netF ns c i).1 + 1 + 1, (netF ns c i).2 ++ [some (1 + tk ns ((netF ns c i).1 + 1) 9)])
def netMany (ns : List Int) (n : Nat) : Int := 2 + tk ns n 4
def netQA (ns : List Int) (n : Nat) : Nat × List Road := netA ns (n + 1) (netMany ns n - 1).toNat
def netTurns (ns : List Int) (n : Nat) : Nat := (1 + tk ns (netQA ns n).1 2).toNat
def netQB (ns : List Int) (n : Nat) : Nat × List Road := netB ns (netMany ns n) ((netQA ns n).1 + 1, (netQA ns n).2) (netTurns ns n)
def netQF (ns : List Int) (n : Nat) : Nat × List (Option Int) := netF ns (netQB ns n).1 (netMany ns n).toNat
def netOf (ns : List Int) (n : Nat) : MapD :=
  { places := netMany ns n, roads := sortRoads (netQB ns n).2, prices := (netQF ns n).2, room := 1 + tk ns (netQF ns n).1 6, bear := tk ns ((netQF ns n).1 + 1) 3 }
def netEnd (ns : List Int) (n : Nat) : Nat := (netQF ns n).1 + 1 + 1
def netD (M : MapD) : D := .tup [.int M.places, .tup (M.roads.map roadD), .tup (M.prices.map optD), .tup [.int M.room, .int M.bear]]
theorem netMany_bd (ns : List Int) (n : Nat) : 2 ≤ netMany ns n ∧ netMany ns n ≤ 5 := by
  obtain ⟨h1, h2⟩ := tk_bd (ns := ns) (n := n) (show (0 : Int) < 4 by decide)
  unfold netMany
  omega
theorem netTurns_bd (ns : List Int) (n : Nat) : 1 ≤ netTurns ns n ∧ netTurns ns n ≤ 2 := by
  obtain ⟨h1, h2⟩ := tk_bd (ns := ns) (n := (netQA ns n).1) (show (0 : Int) < 2 by decide)
  unfold netTurns
  omega
theorem netA_ok {ns : List Int} {c : Nat} {many : Int} : ∀ i : Nat, (i : Int) ≤ many - 1 → (∀ r ∈ (netA ns c i).2, r.Ok many) ∧ (netA ns c i).2.length ≤ i
  | 0, _ => ⟨fun r h => (List.not_mem_nil h).elim, Nat.le_refl _⟩
  | i + 1, h => by
    obtain ⟨h1, h2⟩ := netA_ok (ns := ns) (c := c) (many := many) i (by omega)
    unfold netA
    split
    · refine ⟨fun r hr => ?_, by show ((netA ns c i).2 ++ [_]).length ≤ _; rw [List.length_append]; exact Nat.succ_le_succ h2⟩
      rcases List.mem_append.mp hr with hr | hr
      · exact h1 r hr
      · rw [List.mem_singleton.mp hr]
        obtain ⟨a0, a1⟩ := tk_bd (ns := ns) (n := (netA ns c i).1 + 1) (show (0 : Int) < 3 by decide)
        obtain ⟨b0, b1⟩ := tk_bd (ns := ns) (n := (netA ns c i).1 + 1 + 1) (show (0 : Int) < 3 by decide)
        exact ⟨by show (0 : Int) ≤ 0 + _; omega, by show (0 : Int) + _ < 0 + _ + 1; omega, by show (0 : Int) + _ + 1 ≤ many - 1; omega, by show 1 ≤ 1 + _; omega, by show 1 + _ ≤ 4; omega, b0, by show tk ns _ 3 ≤ 3; omega⟩
    · exact ⟨h1, Nat.le_succ_of_le h2⟩
theorem mkNet_ok {ns : List Int} {many : Int} {c : Nat} (h : 2 ≤ many) : (mkNet ns many c).Ok many := by
  obtain ⟨a0, a1⟩ := tk_bd (ns := ns) (n := c) (show 0 < many - 1 by omega)
  obtain ⟨b0, b1⟩ := tk_bd (ns := ns) (n := c + 1) (show 0 < many - 1 - tk ns c (many - 1) by omega)
  obtain ⟨c0, c1⟩ := tk_bd (ns := ns) (n := c + 1 + 1) (show (0 : Int) < 3 by decide)
  obtain ⟨d0, d1⟩ := tk_bd (ns := ns) (n := c + 1 + 1 + 1) (show (0 : Int) < 4 by decide)
  exact ⟨a0, by show tk ns c (many - 1) < tk ns c (many - 1) + 1 + _; omega, by show tk ns c (many - 1) + 1 + _ ≤ many - 1; omega, by show 1 ≤ 1 + _; omega, by show 1 + _ ≤ 4; omega, d0, by show tk ns _ 4 ≤ 3; omega⟩
theorem netB_ok {ns : List Int} {many : Int} {q : Nat × List Road} (h : 2 ≤ many) (hq : ∀ r ∈ q.2, r.Ok many) : ∀ i : Nat, (∀ r ∈ (netB ns many q i).2, r.Ok many) ∧ (netB ns many q i).2.length = q.2.length + i
  | 0 => ⟨hq, rfl⟩
  | i + 1 => by
    obtain ⟨h1, h2⟩ := netB_ok (ns := ns) h hq i
    refine ⟨fun r hr => ?_, by show ((netB ns many q i).2 ++ [_]).length = _; rw [List.length_append, h2]; rfl⟩
    rcases List.mem_append.mp hr with hr | hr
    · exact h1 r hr
    · rw [List.mem_singleton.mp hr]
      exact mkNet_ok h
theorem netF_ok {ns : List Int} {c : Nat} : ∀ i : Nat, (∀ p ∈ (netF ns c i).2, ∀ x, p = some x → 1 ≤ x ∧ x ≤ 9) ∧ (netF ns c i).2.length = i
  | 0 => ⟨fun r h => (List.not_mem_nil h).elim, rfl⟩
  | i + 1 => by
    obtain ⟨h1, h2⟩ := netF_ok (ns := ns) (c := c) i
    unfold netF
    split
    · refine ⟨fun p hp x e => ?_, by show ((netF ns c i).2 ++ [_]).length = _; rw [List.length_append, h2]; rfl⟩
      rcases List.mem_append.mp hp with hp | hp
      · exact h1 p hp x e
      · rw [List.mem_singleton.mp hp] at e
        cases e
    · refine ⟨fun p hp x e => ?_, by show ((netF ns c i).2 ++ [_]).length = _; rw [List.length_append, h2]; rfl⟩
      rcases List.mem_append.mp hp with hp | hp
      · exact h1 p hp x e
      · rw [List.mem_singleton.mp hp] at e
        obtain ⟨a0, a1⟩ := tk_bd (ns := ns) (n := (netF ns c i).1 + 1) (show (0 : Int) < 9 by decide)
        have e' := Option.some.inj e
        omega
theorem road_bd {n : Int} {r : Road} (h : r.Ok n) (hn : n ≤ 5) : r.Bd := by
  have a0 := h.a0
  have ab := h.ab
  have bn := h.bn
  have h1 := h.h1
  have h4 := h.h4
  have m0 := h.m0
  have m3 := h.m3
  exact bd_of ⟨⟨a0, by omega⟩, ⟨by omega, by omega⟩, ⟨by omega, by omega⟩, ⟨m0, by omega⟩⟩
/-- strictly rising lists of roads are no longer than the roads they hold -/
theorem sort_len : ∀ l : List Road, (sortRoads l).length ≤ l.length
  | [] => Nat.le_refl _
  | x :: l => by
    have h := sort_len l
    have ins : ∀ m : List Road, (insR x m).length ≤ m.length + 1 := fun m => by
      induction m with
      | nil => exact Nat.le_refl _
      | cons y m ih =>
        unfold insR
        repeat' split
        all_goals first | (simp only [List.length_cons] at *; omega) | (simp; done)
    show (insR x (sortRoads l)).length ≤ _
    have := ins (sortRoads l)
    rw [List.length_cons]
    omega
theorem netRaw_ok (ns : List Int) (n : Nat) : (∀ r ∈ (netQB ns n).2, r.Ok (netMany ns n)) ∧ 1 ≤ (netQB ns n).2.length ∧ (netQB ns n).2.length ≤ 6 := by
  obtain ⟨m2, m5⟩ := netMany_bd ns n
  obtain ⟨t1, t2⟩ := netTurns_bd ns n
  obtain ⟨a1, a2⟩ := netA_ok (ns := ns) (c := n + 1) (many := netMany ns n) (netMany ns n - 1).toNat (by omega)
  obtain ⟨b1, b2⟩ := netB_ok (ns := ns) (many := netMany ns n) (q := ((netQA ns n).1 + 1, (netQA ns n).2)) m2 a1 (netTurns ns n)
  have a2' : (netQA ns n).2.length ≤ (netMany ns n - 1).toNat := a2
  have b2' : (netQB ns n).2.length = (netQA ns n).2.length + netTurns ns n := b2
  exact ⟨b1, by omega, by omega⟩
theorem netOf_ok (ns : List Int) (n : Nat) : (netOf ns n).Ok := by
  obtain ⟨m2, m5⟩ := netMany_bd ns n
  obtain ⟨hraw, l1, l6⟩ := netRaw_ok ns n
  obtain ⟨r0, r1⟩ := tk_bd (ns := ns) (n := (netQF ns n).1) (show (0 : Int) < 6 by decide)
  obtain ⟨b0, b1⟩ := tk_bd (ns := ns) (n := (netQF ns n).1 + 1) (show (0 : Int) < 3 by decide)
  obtain ⟨f1, f2⟩ := netF_ok (ns := ns) (c := (netQB ns n).1) (netMany ns n).toNat
  have hbd : ∀ r ∈ (netQB ns n).2, r.Bd := fun r hr => road_bd (hraw r hr) m5
  have hmem : ∀ r ∈ sortRoads (netQB ns n).2, r ∈ (netQB ns n).2 := fun r hr => (sort_mem hbd r).mp hr
  have hne : 1 ≤ (sortRoads (netQB ns n).2).length := by
    obtain ⟨x, hx⟩ : ∃ x, x ∈ (netQB ns n).2 := by
      cases q : (netQB ns n).2 with
      | nil => rw [q] at l1; simp at l1
      | cons x l => exact ⟨x, List.mem_cons_self⟩
    exact List.length_pos_of_mem ((sort_mem hbd x).mpr hx)
  have hord := sort_ord hbd
  refine ⟨m2, m5, hne, Nat.le_trans (sort_len _) (Nat.le_succ_of_le l6), fun r hr => hraw r (hmem r hr), fun i hi => ?_, ?_, f1, by show 1 ≤ 1 + _; omega, by show 1 + _ ≤ 6; omega, b0, by show tk ns _ 3 ≤ 2; omega⟩
  · have hi' : i + 1 < (sortRoads (netQB ns n).2).length := hi
    have g : ∀ j (h : j < (sortRoads (netQB ns n).2).length), (netOf ns n).road j = (sortRoads (netQB ns n).2)[j] := fun j h => by
      show List.getD _ _ _ = _
      rw [List.getD_eq_getElem?_getD]
      show ((sortRoads (netQB ns n).2)[j]?).getD _ = _
      rw [List.getElem?_eq_getElem h]
      rfl
    rw [g i (by omega), g (i + 1) hi']
    exact code_lex (hbd _ (hmem _ (List.getElem_mem _))) (hbd _ (hmem _ (List.getElem_mem _))) (List.pairwise_iff_getElem.mp hord i (i + 1) (by omega) hi' (by omega))
  · show ((netQF ns n).2.length : Int) = netMany ns n
    have f2' : (netQF ns n).2.length = (netMany ns n).toNat := f2
    omega
section
variable {P : Program} {w : World} {K : PySem.W.Frag} {mg : Str → Option Value} {base : Heap} {k : Nat}
def R_pool (ds : List D) (m : Mc) : Prop := ∃ ns bs : List Int, ds = [.lst (ns.map .int), .tup (bs.map .int)] ∧ Bits ns ∧ bs.length ≤ 100 ∧ (∀ b ∈ bs, 0 < b ∧ b < 1073741824) ∧ m = .lst ((poolN ns bs bs.length).map .int)
theorem ok__law_pool (T : Txt w K mg) : FnOk P w K mg base CX0 4 T.a__law_pool T.fd__law_pool ["_law_script", "_law_bases"] (spN K 2 R_pool) := by
  refine fnN T.F__law_pool sc__law_pool rfl (fun cdv A outer s H E hr => ?_)
  refine ⟨_, (pss_cons (ps_set (i := 2) sc__law_pool.nd rfl (.inl rfl) (pe_lst pa_nil))
  (pss_cons (ps_for PassesOwn.never rfl (piEnumT K (by rfl) T.n_enumerate (pa_cons (pv 1) pa_nil)) (pgTup K 2 (pgs_cons (pg_name (i := 3) sc__law_pool.nd rfl (.inl rfl)) (pgs_cons (pg_name (i := 4) sc__law_pool.nd rfl (.inl rfl)) pgs_nil))) (pss_one (ps_set (i := 2) sc__law_pool.nd rfl (.inl rfl) (pe_op op_cat (pv 2) (pe_call (ok__law_digits T) (hr.mono (by decide)) (by rfl) T.g__law_digits T.F__law_digits.kp T.b__law_digits .nil pass0 (pa_cons (pv 0) (pa_cons (pv 3) (pa_cons pe_int (pa_cons (pv 4) pa_nil)))))))))
  (pss_one (ps_ret (pv 2))))), ?_⟩
  rintro ds m ⟨ns, bs, rfl, hB, few, hb, rfl⟩ -
  let pa : Nat → Option Vl := fun | 0 => none | i + 1 => some (.dat (.int (i : Nat)))
  let pb : Nat → Option Vl := fun | 0 => none | i + 1 => some (.dat (.int (bs.getD i 0)))
  let f : Nat → Sl := fun i => [some (.dat (.lst (ns.map .int))), some (.dat (.tup (bs.map .int))), some (.own (2 * i)), pa i, pb i]
  have el : (bs.map D.int).length = bs.length := List.length_map _
  refine ⟨2 * bs.length, poolM ns bs bs.length, ?_, poolM_last ns bs _⟩
  refine ds_seq (ss1 := f 0) (m1 := poolM ns bs 0) (ds_set (dt_lstO da_nil)) ?_
  refine ds_seq (ss1 := f bs.length) (m1 := poolM ns bs bs.length) ?_ (ds_ret (dt_var (i := 2) rfl))
  rw [← el]
  refine ds_for_all (di_enumT (dt_var (i := 1) rfl)) f (fun i => poolM ns bs i) rfl rfl fun i hi => ?_
  rw [el] at hi
  rw [nth_map D.int hi 0]
  refine ⟨_, _, dg_tup (dgs_cons dg_name (dgs_cons dg_name dgs_nil)) rfl, ?_⟩
  let b := bs.getD i 0
  have hbm : b ∈ bs := by
    show bs.getD i 0 ∈ bs
    rw [List.getD_eq_getElem?_getD, List.getElem?_eq_getElem hi]
    exact List.getElem_mem _
  obtain ⟨b0, b1⟩ := hb b hbm
  let g : Sl := [some (.dat (.lst (ns.map .int))), some (.dat (.tup (bs.map .int))), some (.own (2 * i)), some (.dat (.int (i : Nat))), some (.dat (.int b))]
  show DS K _ g (poolM ns bs i) (.nx (f (i + 1)) (poolM ns bs (i + 1)))
  let dg : Mc := .lst ((digits ns (i : Nat) b 150).map .int)
  have call : DT K (tCall (spN K 4 R_digits) [] E0 (tCons (tVar 0) (tCons (tVar 3) (tCons (tC (.int 150)) (tCons (tVar 4) tNil))))) g (poolM ns bs i) (.own (poolM ns bs i).length) (poolM ns bs i ++ [dg]) :=
    dt_callN (da_cons (dt_var (i := 0) rfl) (da_cons (dt_var (i := 3) rfl) (da_cons dt_int (da_cons (dt_var (i := 4) rfl) da_nil)))) ⟨ns, (i : Nat), b, 150, rfl, hB, by omega, by omega, by decide, b0, b1, rfl⟩
  have l1 : ((poolN ns bs i).map D.int).length = i * 150 := by rw [List.length_map, poolN_len]
  have l2 : ((digits ns (i : Nat) b 150).map D.int).length = 150 := by
    rw [List.length_map]
    unfold digits
    rw [digS_len]
  have cat := dt_cat (K := K) (ta := tVar 2) (dt_var (i := 2) rfl) call (h1 := by rw [List.getElem?_append_left (by rw [poolM_len]; omega)]; exact poolM_last ns bs i) (h2 := by rw [List.getElem?_append_right (Nat.le_refl _), Nat.sub_self]; rfl) (hl := by rw [l1, l2]; omega)
  have en : (poolM ns bs i ++ [dg]).length = 2 * (i + 1) := by
    rw [List.length_append, poolM_len]
    rfl
  rw [en] at cat
  have app : (poolN ns bs i).map D.int ++ (digits ns (i : Nat) b 150).map D.int = (poolN ns bs (i + 1)).map D.int := by rw [poolN_succ, List.map_append]
  rw [app] at cat
  exact ds_set (i := 2) cat
def R_net (m : Mc) (ds : List D) (d : D) (m' : Mc) : Prop := ∃ (ns : List Int) (n : Nat), m = drN ns n ∧ ds = [.int 4] ∧ d = netD (netOf ns n) ∧ m' = drN ns (netEnd ns n)
theorem ok__law_net (T : Txt w K mg) : FnOk P w K mg base CX0 2 T.a__law_net T.fd__law_net ["_law_draws", "_law_most"] (spO K 2 R_net) := by
  refine fnO T.F__law_net sc__law_net rfl (fun cdv A outer s H E hr => ?_)
  refine ⟨_, (pss_cons (ps_set (i := 2) sc__law_net.nd rfl (.inl rfl) (pe_op op_add pe_int (pe_call (ok__law_take T) (hr.mono (by decide)) (by rfl) T.g__law_take T.F__law_take.kp T.b__law_take .nil pass0 (pa_cons (pv 0) (pa_cons (pv 1) pa_nil)))))
  (pss_cons (ps_set (i := 3) sc__law_net.nd rfl (.inl rfl) (pe_lst pa_nil))
  (pss_cons (ps_for PassesOwn.never rfl (pi_range1 (by rfl) T.n_range (pa_cons (pe_op op_sub (pv 2) pe_int) pa_nil)) (pg_name (i := 4) sc__law_net.nd rfl (.inl rfl)) (pss_one (ps_if (pt_cmpR op_gt (pe_call (ok__law_take T) (hr.mono (by decide)) (by rfl) T.g__law_take T.F__law_take.kp T.b__law_take .nil pass0 (pa_cons (pv 0) (pa_cons pe_int pa_nil))) pe_int (nomark _)) (pss_one (ps_expr (pe_bm PySem.F.plainAttrs_list PySem.F.slot_list_append PySem.F.type_list_append mt_append (pv 3) (pa_cons (pe_tup (pa_cons (pv 4) (pa_cons (pe_op op_add (pv 4) pe_int) (pa_cons (pe_op op_add pe_int (pe_call (ok__law_take T) (hr.mono (by decide)) (by rfl) T.g__law_take T.F__law_take.kp T.b__law_take .nil pass0 (pa_cons (pv 0) (pa_cons pe_int pa_nil)))) (pa_cons (pe_call (ok__law_take T) (hr.mono (by decide)) (by rfl) T.g__law_take T.F__law_take.kp T.b__law_take .nil pass0 (pa_cons (pv 0) (pa_cons pe_int pa_nil))) pa_nil))))) pa_nil)))) pss_nil)))
  (pss_cons (ps_for PassesOwn.never rfl (pi_range1 (by rfl) T.n_range (pa_cons (pe_op op_add pe_int (pe_call (ok__law_take T) (hr.mono (by decide)) (by rfl) T.g__law_take T.F__law_take.kp T.b__law_take .nil pass0 (pa_cons (pv 0) (pa_cons pe_int pa_nil)))) pa_nil)) (pg_name (i := 5) sc__law_net.nd rfl (.inl rfl)) (pss_cons (ps_set (i := 6) sc__law_net.nd rfl (.inl rfl) (pe_call (ok__law_take T) (hr.mono (by decide)) (by rfl) T.g__law_take T.F__law_take.kp T.b__law_take .nil pass0 (pa_cons (pv 0) (pa_cons (pe_op op_sub (pv 2) pe_int) pa_nil))))
  (pss_cons (ps_set (i := 7) sc__law_net.nd rfl (.inl rfl) (pe_op op_add (pe_op op_add (pv 6) pe_int) (pe_call (ok__law_take T) (hr.mono (by decide)) (by rfl) T.g__law_take T.F__law_take.kp T.b__law_take .nil pass0 (pa_cons (pv 0) (pa_cons (pe_op op_sub (pe_op op_sub (pv 2) pe_int) (pv 6)) pa_nil)))))
  (pss_one (ps_expr (pe_bm PySem.F.plainAttrs_list PySem.F.slot_list_append PySem.F.type_list_append mt_append (pv 3) (pa_cons (pe_tup (pa_cons (pv 6) (pa_cons (pv 7) (pa_cons (pe_op op_add pe_int (pe_call (ok__law_take T) (hr.mono (by decide)) (by rfl) T.g__law_take T.F__law_take.kp T.b__law_take .nil pass0 (pa_cons (pv 0) (pa_cons pe_int pa_nil)))) (pa_cons (pe_call (ok__law_take T) (hr.mono (by decide)) (by rfl) T.g__law_take T.F__law_take.kp T.b__law_take .nil pass0 (pa_cons (pv 0) (pa_cons pe_int pa_nil))) pa_nil))))) pa_nil)))))))
  (pss_cons (ps_set (i := 8) sc__law_net.nd rfl (.inl rfl) (pe_tupleOf (by rfl) T.n_tuple (pe_lc (own := [("_law_place", 9)]) rfl sc__law_net.nd (pi_range1 (by rfl) T.n_range (pa_cons (pv 2) pa_nil)) (blkOk_by (own := [("_law_place", 9)]) (N := ["_law_draws", "_law_most", "_law_many", "_law_rows", "_law_at", "_law_turn", "_law_first", "_law_last", "_law_fees", "_law_place"]) (sc := defScope s__law_net) (by decide +kernel)) (fun _ _ _ _ _ => (pg_name (i := 9) sc__law_net.nd rfl (.inl rfl))) (fun _ _ _ _ _ => pts_nil) (fun _ _ _ _ _ => (pe_ifExp (pt_cmpR op_eq (pe_call (ok__law_take T) (hr.mono (by decide)) (by rfl) T.g__law_take T.F__law_take.kp T.b__law_take .nil pass0 (pa_cons (pv 0) (pa_cons pe_int pa_nil))) pe_int (nomark _)) pe_non (pe_op op_add pe_int (pe_call (ok__law_take T) (hr.mono (by decide)) (by rfl) T.g__law_take T.F__law_take.kp T.b__law_take .nil pass0 (pa_cons (pv 0) (pa_cons pe_int pa_nil)))))))))
  (pss_one (ps_ret (pe_tup (pa_cons (pv 2) (pa_cons (pe_tupleOf (by rfl) T.n_tuple (pe_callB (cr_sortedT rfl) (by rfl) T.n_sorted (by decide +kernel) (pa_cons (pe_callTy (cr_setOfT rfl hr.units) (by rfl) T.n_set (by decide +kernel) (pa_cons (pv 3) pa_nil)) pa_nil))) (pa_cons (pv 8) (pa_cons (pe_tup (pa_cons (pe_op op_add pe_int (pe_call (ok__law_take T) (hr.mono (by decide)) (by rfl) T.g__law_take T.F__law_take.kp T.b__law_take .nil pass0 (pa_cons (pv 0) (pa_cons pe_int pa_nil)))) (pa_cons (pe_call (ok__law_take T) (hr.mono (by decide)) (by rfl) T.g__law_take T.F__law_take.kp T.b__law_take .nil pass0 (pa_cons (pv 0) (pa_cons pe_int pa_nil))) pa_nil))) pa_nil)))))))))))), ?_⟩
  rintro m ds d m' ⟨ns, n, rfl, rfl, rfl, rfl⟩ -
  obtain ⟨m2, m5⟩ := netMany_bd ns n
  obtain ⟨t1, t2⟩ := netTurns_bd ns n
  obtain ⟨hraw, l1, l6⟩ := netRaw_ok ns n
  let many := netMany ns n
  have hmany : many = netMany ns n := rfl
  have hbd : ∀ r ∈ (netQB ns n).2, r.Bd := fun r hr => road_bd (hraw r hr) m5
  refine ⟨[.gone], .inl ?_⟩
  refine ds_seq (ds_set (i := 2) (dt_i0 dt_int (dt_take (n := n) (o := 0) (dt_var rfl) (dt_var (i := 1) rfl) rfl (by decide)))) ?_
  let f : Nat → Sl := fun _ => [some (.own 0), some (.dat (.int 4)), some (.dat (.int many)), some (.own 1), none, none, none, none, none, none]
  refine ds_seq (ss1 := f 0) (m1 := [drN ns (n + 1), .lst []]) (ds_set (i := 3) (dt_lstO da_nil)) ?_
  -- from place to place
  refine ds_seq (ss1 := f 0) (m1 := [drN ns (netQA ns n).1, .lst ((netQA ns n).2.map roadD)]) ?_ ?_
  · refine ds_forW [4] f (fun i => [drN ns (netA ns (n + 1) i).1, .lst ((netA ns (n + 1) i).2.map roadD)]) rfl (di_rng1 (j := many - 1) (da_cons (dt_i0 (dt_var (i := 2) rfl) dt_int) da_nil) (by omega) (by omega)) (fun _ => rfl) (fun _ => rfl) fun i hi => ?_
    obtain ⟨-, len⟩ := netA_ok (ns := ns) (c := n + 1) (many := many) i (by omega)
    refine ⟨(f 0).set 4 (some (.dat (.int (0 + (i : Nat))))), [], ?_, rfl⟩
    show DS K _ _ [drN ns (netA ns (n + 1) i).1, .lst ((netA ns (n + 1) i).2.map roadD)] (.nx _ [drN ns (netA ns (n + 1) (i + 1)).1, .lst ((netA ns (n + 1) (i + 1)).2.map roadD)])
    rw [show netA ns (n + 1) (i + 1) = if 0 < tk ns (netA ns (n + 1) i).1 12 then ((netA ns (n + 1) i).1 + 1 + 1 + 1, (netA ns (n + 1) i).2 ++ [⟨0 + (i : Nat), 0 + (i : Nat) + 1, 1 + tk ns ((netA ns (n + 1) i).1 + 1) 3, tk ns ((netA ns (n + 1) i).1 + 1 + 1) 3⟩]) else ((netA ns (n + 1) i).1 + 1, (netA ns (n + 1) i).2) from rfl]
    generalize netA ns (n + 1) i = q at len
    by_cases h : 0 < tk ns q.1 12
    · rw [if_pos h]
      refine ds_if_t (m1 := [drN ns (q.1 + 1), .lst (q.2.map roadD)]) (db_is (db_test (dt_i0b (dt_take (n := q.1) (o := 0) (dt_var (i := 0) rfl) dt_int rfl (by decide)) dt_int)) (decide_eq_true h)) ?_
      have app : (q.2 ++ [(⟨0 + (i : Nat), 0 + (i : Nat) + 1, 1 + tk ns (q.1 + 1) 3, tk ns (q.1 + 1 + 1) 3⟩ : Road)]).map roadD = q.2.map roadD ++ [roadD ⟨0 + (i : Nat), 0 + (i : Nat) + 1, 1 + tk ns (q.1 + 1) 3, tk ns (q.1 + 1 + 1) 3⟩] := by rw [List.map_append]; rfl
      dsimp only
      rw [app]
      refine ds_drop (r := .dat .non) (dt_append (n := 1) (ds := q.2.map roadD) (m1 := [drN ns (q.1 + 1), .lst (q.2.map roadD)]) (m2 := [drN ns (q.1 + 1 + 1 + 1), .lst (q.2.map roadD)]) (dt_var (i := 3) rfl) (da_cons ?_ da_nil) rfl rfl (by rw [List.length_map]; omega))
      exact dt_tup (da_cons (dt_var (i := 4) rfl) (da_cons (dt_i0 (dt_var (i := 4) rfl) dt_int) (da_cons (dt_i0 dt_int (dt_take (n := q.1 + 1) (o := 0) (dt_var (i := 0) rfl) dt_int rfl (by decide))) (da_cons (dt_take (n := q.1 + 1 + 1) (o := 0) (dt_var (i := 0) rfl) dt_int rfl (by decide)) da_nil))))
    · rw [if_neg h]
      exact ds_if_f (m1 := [drN ns (q.1 + 1), .lst (q.2.map roadD)]) (db_is (db_test (dt_i0b (dt_take (n := q.1) (o := 0) (dt_var (i := 0) rfl) dt_int rfl (by decide)) dt_int)) (decide_eq_false h)) ds_next
  -- one or two more
  refine ds_seq (ss1 := f 0) (m1 := [drN ns (netQB ns n).1, .lst ((netQB ns n).2.map roadD)]) ?_ ?_
  · let q0 : Nat × List Road := ((netQA ns n).1 + 1, (netQA ns n).2)
    obtain ⟨-, lenA⟩ := netA_ok (ns := ns) (c := n + 1) (many := many) (many - 1).toNat (by omega)
    have lenA' : (netQA ns n).2.length ≤ (many - 1).toNat := lenA
    refine ds_forW [5, 6, 7] f (fun i => [drN ns (netB ns many q0 i).1, .lst ((netB ns many q0 i).2.map roadD)]) rfl (di_rng1 (j := 1 + tk ns (netQA ns n).1 2) (da_cons (dt_i0 dt_int (dt_take (n := (netQA ns n).1) (o := 0) (dt_var (i := 0) rfl) dt_int rfl (by decide))) da_nil) (by unfold netTurns at t1 t2; omega) (by unfold netTurns at t1 t2; omega)) (fun _ => rfl) (fun _ => rfl) fun i hi => ?_
    have hi' : i < netTurns ns n := hi
    have len : (netB ns many q0 i).2.length = (netQA ns n).2.length + i := (netB_ok (ns := ns) (many := many) (q := q0) m2 (netA_ok (ns := ns) (c := n + 1) (many := many) (many - 1).toNat (by omega)).1 i).2
    show ∃ s' more, DS K _ _ _ (.nx s' ([drN ns ((netB ns many q0 i).1 + 1 + 1 + 1 + 1), .lst (((netB ns many q0 i).2 ++ [mkNet ns many (netB ns many q0 i).1]).map roadD)] ++ more)) ∧ _
    generalize netB ns many q0 i = q at len
    let r := mkNet ns many q.1
    obtain ⟨a0, a1⟩ := tk_bd (ns := ns) (n := q.1) (show 0 < many - 1 by omega)
    have app : (q.2 ++ [r]).map roadD = q.2.map roadD ++ [roadD r] := by rw [List.map_append]; rfl
    refine ⟨[some (.own 0), some (.dat (.int 4)), some (.dat (.int many)), some (.own 1), none, some (.dat (.int (0 + (i : Nat)))), some (.dat (.int r.a)), some (.dat (.int r.b)), none, none], [], ?_, rfl⟩
    show DS K _ _ [drN ns q.1, .lst (q.2.map roadD)] (.nx _ [drN ns (q.1 + 1 + 1 + 1 + 1), .lst ((q.2 ++ [r]).map roadD)])
    rw [app]
    refine ds_seq (ds_set (i := 6) (dt_take (n := q.1) (o := 0) (dt_var (i := 0) rfl) (dt_i0 (dt_var (i := 2) rfl) dt_int) rfl (by omega))) ?_
    refine ds_seq (ds_set (i := 7) (dt_i0 (dt_i0 (dt_var (i := 6) rfl) dt_int) (dt_take (n := q.1 + 1) (o := 0) (dt_var (i := 0) rfl) (dt_i0 (dt_i0 (dt_var (i := 2) rfl) dt_int) (dt_var (i := 6) rfl)) rfl (by omega)))) ?_
    refine ds_drop (r := .dat .non) (dt_append (n := 1) (ds := q.2.map roadD) (m1 := [drN ns (q.1 + 1 + 1), .lst (q.2.map roadD)]) (m2 := [drN ns (q.1 + 1 + 1 + 1 + 1), .lst (q.2.map roadD)]) (dt_var (i := 3) rfl) (da_cons ?_ da_nil) rfl rfl (by rw [List.length_map]; omega))
    exact dt_tup (da_cons (dt_var (i := 6) rfl) (da_cons (dt_var (i := 7) rfl) (da_cons (dt_i0 dt_int (dt_take (n := q.1 + 1 + 1) (o := 0) (dt_var (i := 0) rfl) dt_int rfl (by decide))) (da_cons (dt_take (n := q.1 + 1 + 1 + 1) (o := 0) (dt_var (i := 0) rfl) dt_int rfl (by decide)) da_nil))))
  -- fees
  let m3 : Nat → List Mc := fun i => [drN ns (netF ns (netQB ns n).1 i).1, .lst ((netQB ns n).2.map roadD)]
  let fees : D := .tup ((netQF ns n).2.map optD)
  refine ds_seq (ss1 := (f 0).set 8 (some (.dat fees))) (m1 := m3 many.toNat) (ds_set (i := 8) (dt_tupleL ?_)) ?_
  · refine dt_lc (K := K) (n := many.toNat) (it := fun i => .int (0 + (i : Nat))) (di_rng1 (j := many) (da_cons (dt_var (i := 2) rfl) da_nil) (by omega) (by omega)) (fun i => (netF ns (netQB ns n).1 i).2.map optD) m3 rfl rfl (fun i hi => by rw [List.length_map, (netF_ok (ns := ns) (c := (netQB ns n).1) i).2]; omega) fun i hi => ?_
    refine ⟨_, [9], dg_name, fun w hw => hw, .inl ?_⟩
    show ∃ mt y, DB K _ _ [drN ns (netF ns (netQB ns n).1 i).1, .lst ((netQB ns n).2.map roadD)] true mt ∧ DT K _ _ mt (.dat y) [drN ns (netF ns (netQB ns n).1 (i + 1)).1, .lst ((netQB ns n).2.map roadD)] ∧ (netF ns (netQB ns n).1 (i + 1)).2.map optD = _ ++ [y]
    rw [show netF ns (netQB ns n).1 (i + 1) = if tk ns (netF ns (netQB ns n).1 i).1 4 = 0 then ((netF ns (netQB ns n).1 i).1 + 1, (netF ns (netQB ns n).1 i).2 ++ [none]) else ((netF ns (netQB ns n).1 i).1 + 1 + 1, (netF ns (netQB ns n).1 i).2 ++ [some (1 + tk ns ((netF ns (netQB ns n).1 i).1 + 1) 9)]) from rfl]
    generalize netF ns (netQB ns n).1 i = q
    by_cases h : tk ns q.1 4 = 0
    · rw [if_pos h]
      refine ⟨_, .non, db_yes, dt_if_t (db_is (db_test (dt_eqI (dt_take (n := q.1) (o := 0) (dt_var (i := 0) rfl) dt_int rfl (by decide)) dt_int)) (decide_eq_true h)) dt_non, ?_⟩
      show (q.2 ++ [none]).map optD = _
      rw [List.map_append]
      rfl
    · rw [if_neg h]
      refine ⟨_, .int (1 + tk ns (q.1 + 1) 9), db_yes, dt_if_f (db_is (db_test (dt_eqI (dt_take (n := q.1) (o := 0) (dt_var (i := 0) rfl) dt_int rfl (by decide)) dt_int)) (decide_eq_false h)) (dt_i0 dt_int (dt_take (n := q.1 + 1) (o := 0) (dt_var (i := 0) rfl) dt_int rfl (by decide))), ?_⟩
      show (q.2 ++ [some _]).map optD = _
      rw [List.map_append]
      rfl
  -- the tuple
  refine ds_frz (n := 1) (ds := (netQB ns n).2.map roadD) 3 rfl rfl ?_
  have erow : (netQB ns n).2.map roadD = ((netQB ns n).2.map Road.row).map rowD := by
    rw [List.map_map]
    rfl
  have erow2 : (sortRoads (netQB ns n).2).map roadD = ((sortRoads (netQB ns n).2).map Road.row).map rowD := by
    rw [List.map_map]
    rfl
  refine ds_ret (dt_tup (m1 := [drN ns (netEnd ns n), .gone]) (da_cons (dt_var (i := 2) rfl) (da_cons (dt_tupleL (m1 := [drN ns (netQF ns n).1, .gone]) ?_) (da_cons (dt_var (i := 8) rfl) (da_cons (dt_tup (da_cons (dt_i0 dt_int (dt_take (n := (netQF ns n).1) (o := 0) (dt_var (i := 0) rfl) dt_int rfl (by decide))) (da_cons (dt_take (n := (netQF ns n).1 + 1) (o := 0) (dt_var (i := 0) rfl) dt_int rfl (by decide)) da_nil))) da_nil)))))
  show DT K _ _ _ (.dat (.lst ((sortRoads (netQB ns n).2).map roadD))) _
  rw [erow2]
  refine dt_sortSet (nss := (netQB ns n).2.map Road.row) (n := 4) (Bd := 64) (by rw [← erow]; exact dt_var (i := 3) rfl) (by rw [List.length_map]; omega) (by decide) (fun x hx => ?_) (fun out' h => sort_uniq hbd out' h)
  obtain ⟨r, hr, rfl⟩ := List.mem_map.mp hx
  exact ⟨rfl, hbd r hr⟩
/-! drawn states -/
def stN (ns : List Int) (n : Nat) (M : MapD) : StD := ⟨tk ns n M.places, tk ns (n + 1) (M.room + 1), tk ns (n + 1 + 1) (M.bear + 1), tk ns (n + 1 + 1 + 1) 5⟩
theorem stN_ok {ns : List Int} {n : Nat} {M : MapD} (h : M.Ok) : (stN ns n M).Ok M := by
  have p2 := h.p2
  have m1 := h.m1
  have b0 := h.b0
  obtain ⟨a0, a1⟩ := tk_bd (ns := ns) (n := n) (show 0 < M.places by omega)
  obtain ⟨c0, c1⟩ := tk_bd (ns := ns) (n := n + 1) (show 0 < M.room + 1 by omega)
  obtain ⟨d0, d1⟩ := tk_bd (ns := ns) (n := n + 1 + 1) (show 0 < M.bear + 1 by omega)
  obtain ⟨e0, e1⟩ := tk_bd (ns := ns) (n := n + 1 + 1 + 1) (show (0 : Int) < 5 by decide)
  exact ⟨a0, by show tk ns n M.places ≤ M.places - 1; omega, c0, by show tk ns (n + 1) (M.room + 1) ≤ M.room; omega, d0, by show tk ns (n + 1 + 1) (M.bear + 1) ≤ M.bear; omega, e0, by show tk ns (n + 1 + 1 + 1) 5 ≤ 4; omega⟩
def R_stateN (m : Mc) (ds : List D) (d : D) (m' : Mc) : Prop := ∃ (ns : List Int) (n : Nat) (M : MapD), m = drN ns n ∧ ds = [netD M] ∧ M.Ok ∧ d = stD (stN ns n M) ∧ m' = drN ns (n + 1 + 1 + 1 + 1)
theorem ok__law_state (T : Txt w K mg) : FnOk P w K mg base CX0 2 T.a__law_state T.fd__law_state ["_law_draws", "_law_net_here"] (spO K 2 R_stateN) := by
  refine fnO T.F__law_state sc__law_state rfl (fun cdv A outer s H E hr => ?_)
  refine ⟨_, (pss_one (ps_ret (pe_tup (pa_cons (pe_call (ok__law_take T) (hr.mono (by decide)) (by rfl) T.g__law_take T.F__law_take.kp T.b__law_take .nil pass0 (pa_cons (pv 0) (pa_cons (pe_ix (ixT K) (pv 1) pe_int (fun _ _ => rfl)) pa_nil))) (pa_cons (pe_call (ok__law_take T) (hr.mono (by decide)) (by rfl) T.g__law_take T.F__law_take.kp T.b__law_take .nil pass0 (pa_cons (pv 0) (pa_cons (pe_op op_add (pe_ix (ixT K) (pe_ix (ixT K) (pv 1) pe_int (fun _ _ => rfl)) pe_int (fun _ _ => rfl)) pe_int) pa_nil))) (pa_cons (pe_call (ok__law_take T) (hr.mono (by decide)) (by rfl) T.g__law_take T.F__law_take.kp T.b__law_take .nil pass0 (pa_cons (pv 0) (pa_cons (pe_op op_add (pe_ix (ixT K) (pe_ix (ixT K) (pv 1) pe_int (fun _ _ => rfl)) pe_int (fun _ _ => rfl)) pe_int) pa_nil))) (pa_cons (pe_call (ok__law_take T) (hr.mono (by decide)) (by rfl) T.g__law_take T.F__law_take.kp T.b__law_take .nil pass0 (pa_cons (pv 0) (pa_cons pe_int pa_nil))) pa_nil))))))), ?_⟩
  rintro m ds d m' ⟨ns, n, M, rfl, rfl, h, rfl, rfl⟩ -
  have p2 := h.p2
  have m1 := h.m1
  have b0 := h.b0
  let sl : Sl := [some (.own 0), some (.dat (netD M))]
  have box : ∀ (mm : List Mc) (j : Nat) (x : Int), (j = 0 ∧ x = M.room) ∨ (j = 1 ∧ x = M.bear) → DT K (tOp (rIxT K) (tOp (rIxT K) (tVar 1) (tC (.int 3))) (tC (.int (j : Nat)))) sl mm (.dat (.int x)) mm := fun mm j x h => by
    rcases h with ⟨rfl, rfl⟩ | ⟨rfl, rfl⟩
    · exact dt_ixT (dt_ixT (dt_var (i := 1) rfl) dt_int rfl) dt_int rfl
    · exact dt_ixT (dt_ixT (dt_var (i := 1) rfl) dt_int rfl) dt_int rfl
  refine .rt (ds_ret (dt_tup (da_cons (dt_take (n := n) (o := 0) (dt_var (i := 0) rfl) (dt_ixT (dt_var (i := 1) rfl) dt_int rfl) rfl (by omega)) (da_cons (dt_take (n := n + 1) (o := 0) (dt_var (i := 0) rfl) (dt_i0 (box _ 0 _ (.inl ⟨rfl, rfl⟩)) dt_int) rfl (by omega)) (da_cons (dt_take (n := n + 1 + 1) (o := 0) (dt_var (i := 0) rfl) (dt_i0 (box _ 1 _ (.inr ⟨rfl, rfl⟩)) dt_int) rfl (by omega)) (da_cons (dt_take (n := n + 1 + 1 + 1) (o := 0) (dt_var (i := 0) rfl) dt_int rfl (by decide)) da_nil))))))
end
end K34
end
section
set_option Elab.async false
set_option linter.all false
set_option maxRecDepth 100000
set_option maxHeartbeats 4000000
namespace K34
open PySem PySem.Spec PyProof.Rows L2 DL TL
/-! ### lines, and texts of lines -/
def vtx : Option Int → Str
  | none => "-"
  | some i => Str.ofString (toString i)
def Dig (v : Option Int) : Prop := ∀ i, v = some i → 0 ≤ i ∧ i ≤ 9
theorem dig_cases {i : Int} (h0 : 0 ≤ i) (h1 : i ≤ 9) {p : Int → Prop} (h : ∀ n : Nat, n < 10 → p n) : p i := by
  have z := h i.toNat (by omega)
  rwa [show ((i.toNat : Nat) : Int) = i by omega] at z
theorem tl_vtx {v : Option Int} (h : Dig v) : ∃ c, tl (vtx v) = [c] ∧ c ≠ 32 ∧ c ≠ 10 := by
  cases v with
  | none => exact ⟨45, by decide +kernel, by decide, by decide⟩
  | some i =>
    obtain ⟨h0, h1⟩ := h i rfl
    refine dig_cases (p := fun i => ∃ c, tl (vtx (some i)) = [c] ∧ c ≠ 32 ∧ c ≠ 10) h0 h1 fun n hn => ⟨48 + n, ?_, by omega, by omega⟩
    show tl (Str.ofString (toString ((n : Nat) : Int))) = _
    rw [tl_num, numL_lt hn]
def plain (w : Str) : Prop := 32 ∉ tl w ∧ 10 ∉ tl w
instance (w : Str) : Decidable (plain w) := by unfold plain; exact inferInstance
theorem vtx_plain {v : Option Int} (h : Dig v) : plain (vtx v) := by
  obtain ⟨c, e, h1, h2⟩ := tl_vtx h
  unfold plain
  rw [e]
  exact ⟨fun z => h1 (List.mem_singleton.mp z).symm, fun z => h2 (List.mem_singleton.mp z).symm⟩
theorem len_vtx {v : Option Int} (h : Dig v) : (vtx v).length = 1 := by
  obtain ⟨c, e, -⟩ := tl_vtx h
  rw [len_tl, e]
  rfl
theorem mem_joinL {c : Nat} {S : List Nat} : ∀ {ps : List (List Nat)}, c ∈ joinL S ps → c ∈ S ∨ ∃ p ∈ ps, c ∈ p
  | [], h => (List.not_mem_nil h).elim
  | [p], h => .inr ⟨p, List.mem_singleton.mpr rfl, h⟩
  | p :: q :: r, h => by
    have h : c ∈ p ++ (S ++ joinL S (q :: r)) := h
    rcases List.mem_append.mp h with h | h
    · exact .inr ⟨p, List.mem_cons_self, h⟩
    · rcases List.mem_append.mp h with h | h
      · exact .inl h
      · rcases mem_joinL h with h | ⟨x, hx, h⟩
        · exact .inl h
        · exact .inr ⟨x, List.mem_cons_of_mem _ hx, h⟩
theorem len_joinL {S : List Nat} : ∀ (p : List Nat) (ps : List (List Nat)), (joinL S (p :: ps)).length = p.length + (ps.map fun q => S.length + q.length).sum
  | p, [] => rfl
  | p, q :: r => by
    show (p ++ (S ++ joinL S (q :: r))).length = _
    rw [List.length_append, List.length_append, len_joinL q r, List.map_cons, List.sum_cons]
    omega
theorem joinL_nil : ∀ ps : List (List Nat), joinL [] ps = ps.flatten
  | [] => rfl
  | [p] => by simp [joinL]
  | p :: q :: r => by
    show p ++ ([] ++ joinL [] (q :: r)) = _
    rw [joinL_nil (q :: r)]
    rfl
theorem joinL_ends (s : Nat) : ∀ ps : List (List Nat), joinL [s] (ps ++ [[]]) = (ps.map (· ++ [s])).flatten
  | [] => rfl
  | [p] => by simp [joinL]
  | p :: q :: r => by
    show p ++ ([s] ++ joinL [s] ((q :: r) ++ [[]])) = _
    rw [joinL_ends s (q :: r)]
    simp
/-- a line without its end -/
def lnS (w : Str) (vs : List (Option Int)) : Str := Txt.join " " (w :: vs.map vtx)
theorem tl_sp : tl " " = [32] := by decide +kernel
theorem tl_nl : tl "\n" = [10] := by decide +kernel
theorem ln_nl {w : Str} {vs : List (Option Int)} (hw : plain w) (hv : ∀ v ∈ vs, Dig v) : 10 ∉ tl (lnS w vs) := fun h => by
  unfold lnS at h
  rw [join_eq, tl_join, tl_sp] at h
  rcases mem_joinL h with z | ⟨p, hp, z⟩
  · exact absurd z (by decide)
  · obtain ⟨x, hx, rfl⟩ := List.mem_map.mp hp
    rcases List.mem_cons.mp hx with e | hx
    · exact hw.2 (e ▸ z)
    · obtain ⟨v, hv', rfl⟩ := List.mem_map.mp hx
      exact (vtx_plain (hv v hv')).2 z
theorem ln_split {w : Str} {vs : List (Option Int)} (hw : plain w) (hv : ∀ v ∈ vs, Dig v) : Txt.split (lnS w vs) " " = w :: vs.map vtx := by
  refine split_join (s := 32) (S := []) tl_sp (by decide +kernel) (List.cons_ne_nil _ _) fun p hp => ?_
  rcases List.mem_cons.mp hp with rfl | hp
  · exact hw.1
  · obtain ⟨v, hv', rfl⟩ := List.mem_map.mp hp
    exact (vtx_plain (hv v hv')).1
theorem sum_vtx {f : Nat → Nat} : ∀ {vs : List (Option Int)}, (∀ v ∈ vs, Dig v) → ((vs.map vtx).map fun x => f x.length).sum = vs.length * f 1
  | [], _ => by simp
  | v :: vs, h => by
    rw [List.map_cons, List.map_cons, List.sum_cons, sum_vtx fun x hx => h x (List.mem_cons_of_mem _ hx), len_vtx (h v List.mem_cons_self), List.length_cons, Nat.add_mul, Nat.one_mul, Nat.add_comm]
theorem len_ln {w : Str} {vs : List (Option Int)} (hv : ∀ v ∈ vs, Dig v) : (lnS w vs).length = w.length + vs.length * 2 := by
  unfold lnS
  rw [join_eq, len_tl, tl_join, List.map_cons, len_joinL, tl_sp, ← len_tl]
  have e : (((vs.map vtx).map tl).map fun q => [32].length + q.length) = (vs.map vtx).map fun x => (fun n => 1 + n) x.length := by
    rw [List.map_map]
    refine List.map_congr_left fun x _ => ?_
    show [32].length + (tl x).length = 1 + x.length
    rw [len_tl]
    rfl
  rw [e, sum_vtx (f := fun n => 1 + n) hv]
/-- lines, each with its end, joined -/
def linesS (rows : List Str) : Str := Txt.join "" (rows.map (· ++ "\n"))
theorem tl_empty : tl "" = [] := by decide +kernel
theorem tl_lines (rows : List Str) : tl (linesS rows) = (rows.map fun r => tl r ++ [10]).flatten := by
  unfold linesS
  rw [join_eq, tl_join, tl_empty, joinL_nil, List.map_map]
  refine congrArg List.flatten (List.map_congr_left fun x _ => ?_)
  show tl (x ++ "\n") = _
  rw [tl_append, tl_nl]
theorem split_lines {rows : List Str} (h : ∀ r ∈ rows, 10 ∉ tl r) : Txt.split (linesS rows) "\n" = rows ++ [("" : Str)] := by
  have e : linesS rows = Txt.join "\n" (rows ++ [("" : Str)]) := by
    refine ext_tl ?_
    rw [tl_lines, join_eq, tl_join, tl_nl, List.map_append]
    show _ = joinL [10] (rows.map tl ++ [tl ""])
    rw [tl_empty, joinL_ends, List.map_map]
    rfl
  rw [e]
  refine split_join (s := 10) (S := []) tl_nl (by decide +kernel) (by simp) fun p hp => ?_
  rcases List.mem_append.mp hp with hp | hp
  · exact h p hp
  · rw [List.mem_singleton.mp hp, tl_empty]
    exact List.not_mem_nil
theorem lines_snoc (rows : List Str) (r : Str) : linesS (rows ++ [r]) = linesS rows ++ (r ++ "\n") := by
  refine ext_tl ?_
  rw [tl_append, tl_lines, tl_lines, tl_append, tl_nl, List.map_append, List.flatten_append]
  simp
theorem len_lines : ∀ {rows : List Str} {b : Nat}, (∀ r ∈ rows, r.length ≤ b) → (linesS rows).length ≤ rows.length * (b + 1) := fun {rows b} h => by
  rw [len_tl, tl_lines]
  induction rows with
  | nil => simp
  | cons r rows ih =>
    rw [List.map_cons, List.flatten_cons, List.length_append, List.length_append, ← len_tl, List.length_cons (as := rows), Nat.add_mul]
    have h1 := h r List.mem_cons_self
    have h2 := ih fun x hx => h x (List.mem_cons_of_mem _ hx)
    show r.length + 1 + _ ≤ _
    omega
/-! ### of a map -/
def Road.vals (r : Road) : List (Option Int) := [some r.a, some r.b, some r.h, some r.m]
def MapD.tops (M : MapD) : List Str := lnS "places" [some M.places] :: M.roads.map fun r => lnS "road" (Road.vals r)
def MapD.rows (M : MapD) : List Str := MapD.tops M ++ [lnS "prices" M.prices, lnS "box" [some M.room, some M.bear]]
def MapD.text (M : MapD) : Str := linesS (MapD.rows M)
theorem dig_some {i : Int} (h0 : 0 ≤ i) (h1 : i ≤ 9) : Dig (some i) := fun j e => by
  cases e
  exact ⟨h0, h1⟩
theorem road_dig {n : Int} {r : Road} (h : r.Ok n) (hn : n ≤ 5) : ∀ v ∈ Road.vals r, Dig v := fun v hv => by
  have a0 := h.a0
  have ab := h.ab
  have bn := h.bn
  have h1 := h.h1
  have h4 := h.h4
  have m0 := h.m0
  have m3 := h.m3
  unfold Road.vals at hv
  simp only [List.mem_cons, List.not_mem_nil, or_false] at hv
  rcases hv with rfl | rfl | rfl | rfl <;> exact dig_some (by omega) (by omega)
section
variable {M : MapD}
theorem places_dig (h : M.Ok) : ∀ v ∈ [some M.places], Dig v := fun v hv => by
  have p2 := h.p2
  have p5 := h.p5
  rw [List.mem_singleton.mp hv]
  exact dig_some (by omega) (by omega)
theorem prices_dig (h : M.Ok) : ∀ v ∈ M.prices, Dig v := fun v hv i e => by
  obtain ⟨h1, h2⟩ := h.pr v hv i e
  omega
theorem box_dig (h : M.Ok) : ∀ v ∈ [some M.room, some M.bear], Dig v := fun v hv => by
  have m1 := h.m1
  have m6 := h.m6
  have b0 := h.b0
  have b2 := h.b2
  simp only [List.mem_cons, List.not_mem_nil, or_false] at hv
  rcases hv with rfl | rfl <;> exact dig_some (by omega) (by omega)
theorem rows_all (h : M.Ok) {p : Str → Prop} (h1 : p (lnS "places" [some M.places])) (h2 : ∀ r ∈ M.roads, p (lnS "road" (Road.vals r))) (h3 : p (lnS "prices" M.prices)) (h4 : p (lnS "box" [some M.room, some M.bear])) : ∀ r ∈ MapD.rows M, p r := fun r hr => by
  unfold MapD.rows MapD.tops at hr
  rcases List.mem_append.mp hr with hr | hr
  · rcases List.mem_cons.mp hr with rfl | hr
    · exact h1
    · obtain ⟨x, hx, rfl⟩ := List.mem_map.mp hr
      exact h2 x hx
  · simp only [List.mem_cons, List.not_mem_nil, or_false] at hr
    rcases hr with rfl | rfl
    · exact h3
    · exact h4
theorem rows_nl (h : M.Ok) : ∀ r ∈ MapD.rows M, 10 ∉ tl r :=
  rows_all h (p := fun r => 10 ∉ tl r) (ln_nl (by decide +kernel) (places_dig h)) (fun r hr => ln_nl (by decide +kernel) (road_dig (h.rd r hr) h.p5)) (ln_nl (by decide +kernel) (prices_dig h)) (ln_nl (by decide +kernel) (box_dig h))
theorem rows_len (h : M.Ok) : ∀ r ∈ MapD.rows M, r.length ≤ 40 := by
  have pl := h.pl
  have p5 := h.p5
  refine rows_all h (p := fun r => r.length ≤ 40) ?_ (fun r hr => ?_) ?_ ?_
  · rw [len_ln (places_dig h)]
    show Str.length "places" + 1 * 2 ≤ 40
    decide +kernel
  · rw [len_ln (road_dig (h.rd r hr) h.p5)]
    show Str.length "road" + 4 * 2 ≤ 40
    decide +kernel
  · rw [len_ln (prices_dig h)]
    have e : Str.length "prices" = 6 := by decide +kernel
    rw [e]
    omega
  · rw [len_ln (box_dig h)]
    show Str.length "box" + 2 * 2 ≤ 40
    decide +kernel
theorem rows_count : (MapD.rows M).length = M.roads.length + 3 := by
  unfold MapD.rows MapD.tops
  rw [List.length_append, List.length_cons, List.length_map]
  rfl
theorem text_split (h : M.Ok) : Txt.split (MapD.text M) "\n" = MapD.rows M ++ [("" : Str)] := split_lines (rows_nl h)
theorem text_len (h : M.Ok) : (MapD.text M).length ≤ 500 := by
  have z := len_lines (rows_len h)
  have r7 := h.r7
  rw [rows_count] at z
  show (linesS _).length ≤ 500
  omega
end
/-! ### of a state -/
def stWords : List Str := ["at", "ice", "warm", "late"]
def StD.vals (s : StD) : List (Option Int) := [some s.p, some s.i, some s.w, some s.l]
def wordsOf (vs : List (Option Int)) : List Str := (stWords.zip vs).flatMap fun q => [q.1, vtx q.2]
def StD.line (s : StD) : Str := Txt.join " " ((stWords.zip (StD.vals s)).map fun q => q.1 ++ " " ++ vtx q.2)
theorem st_dig {M : MapD} {s : StD} (hM : M.Ok) (h : s.Ok M) : ∀ v ∈ StD.vals s, Dig v := fun v hv => by
  have p5 := hM.p5
  have m6 := hM.m6
  have b2 := hM.b2
  have p0 := h.p0
  have p1 := h.p1
  have i0 := h.i0
  have i1 := h.i1
  have w0 := h.w0
  have w1 := h.w1
  have l0 := h.l0
  have l1 := h.l1
  unfold StD.vals at hv
  simp only [List.mem_cons, List.not_mem_nil, or_false] at hv
  rcases hv with rfl | rfl | rfl | rfl <;> exact dig_some (by omega) (by omega)
def stAll (s : StD) : List Str := ["at", vtx (some s.p), "ice", vtx (some s.i), "warm", vtx (some s.w), "late", vtx (some s.l)]
theorem row_join (s : StD) : StD.line s = Txt.join " " (stAll s) := by
  refine ext_tl ?_
  unfold StD.line stAll stWords StD.vals
  rw [join_eq, join_eq, tl_join, tl_join, tl_sp]
  simp only [List.zip_cons_cons, List.zip_nil_right, List.map_cons, List.map_nil, joinL, tl_append, tl_sp, List.append_assoc]
theorem all_plain {M : MapD} {s : StD} (hM : M.Ok) (h : s.Ok M) : ∀ x ∈ stAll s, plain x := fun x hx => by
  have d := st_dig hM h
  unfold stAll at hx
  simp only [List.mem_cons, List.not_mem_nil, or_false] at hx
  rcases hx with rfl | rfl | rfl | rfl | rfl | rfl | rfl | rfl
  · decide +kernel
  · exact vtx_plain (d _ (by simp [StD.vals]))
  · decide +kernel
  · exact vtx_plain (d _ (by simp [StD.vals]))
  · decide +kernel
  · exact vtx_plain (d _ (by simp [StD.vals]))
  · decide +kernel
  · exact vtx_plain (d _ (by simp [StD.vals]))
theorem row_split {M : MapD} {s : StD} (hM : M.Ok) (h : s.Ok M) : Txt.split (StD.line s) " " = stAll s := by
  rw [row_join]
  exact split_join (s := 32) (S := []) tl_sp (by decide +kernel) (List.cons_ne_nil _ _) fun p hp => (all_plain hM h p hp).1
theorem row_nl {M : MapD} {s : StD} (hM : M.Ok) (h : s.Ok M) : 10 ∉ tl (StD.line s) := fun z => by
  rw [row_join, join_eq, tl_join, tl_sp] at z
  rcases mem_joinL z with z | ⟨p, hp, z⟩
  · exact absurd z (by decide)
  · obtain ⟨x, hx, rfl⟩ := List.mem_map.mp hp
    exact (all_plain hM h x hx).2 z
theorem row_len {M : MapD} {s : StD} (hM : M.Ok) (h : s.Ok M) : (StD.line s).length ≤ 40 := by
  have d := st_dig hM h
  have l : ∀ i, some i ∈ StD.vals s → (tl (vtx (some i))).length = 1 := fun i hi => by
    rw [← len_tl]
    exact len_vtx (d _ hi)
  rw [row_join, join_eq, len_tl, tl_join, tl_sp]
  unfold stAll
  rw [List.map_cons, len_joinL]
  simp only [List.map_cons, List.map_nil, List.sum_cons, List.sum_nil]
  rw [l s.p (by simp [StD.vals]), l s.i (by simp [StD.vals]), l s.w (by simp [StD.vals]), l s.l (by simp [StD.vals])]
  decide +kernel
def StD.text (s : StD) : Str := StD.line s ++ "\n"
theorem st_lines (s : StD) : StD.text s = linesS [StD.line s] := by
  refine ext_tl ?_
  unfold StD.text
  rw [tl_lines, tl_append, tl_nl]
  simp
theorem st_split {M : MapD} {s : StD} (hM : M.Ok) (h : s.Ok M) : Txt.split (StD.text s) "\n" = [StD.line s, ("" : Str)] := by
  rw [st_lines]
  exact split_lines fun r hr => by
    rw [List.mem_singleton.mp hr]
    exact row_nl hM h
theorem st_len {M : MapD} {s : StD} (hM : M.Ok) (h : s.Ok M) : (StD.text s).length ≤ 41 := by
  have z := row_len hM h
  unfold StD.text
  rw [len_tl, tl_append, tl_nl, List.length_append, ← len_tl]
  show _ + 1 ≤ 41
  omega
end K34
end
section
set_option Elab.async false
set_option linter.all false
set_option maxRecDepth 100000
set_option maxHeartbeats 4000000
namespace K34
open PySem PySem.Spec PyProof.Rows L2 DL
/-! ### words, lines, rows -/
theorem le_false {r s : Road} (h : HT.lexLt r.row s.row = true) : leI s.row r.row = false := by
  have e : leI s.row r.row = (if (s.a == r.a) = true then if (s.b == r.b) = true then if (s.h == r.h) = true then if (s.m == r.m) = true then true else decide (s.m ≤ r.m) else decide (s.h ≤ r.h) else decide (s.b ≤ r.b) else decide (s.a ≤ r.a)) := rfl
  rw [e]
  simp only [Road.row, HT.lexLt] at h
  simp only [beq_iff_eq]
  have fin : ∀ {x y : Int}, decide (x < y) = true → decide (y ≤ x) = false := fun z => decide_eq_false (by have := of_decide_eq_true z; omega)
  by_cases q1 : r.a = s.a
  · rw [if_pos q1] at h
    rw [if_pos q1.symm]
    by_cases q2 : r.b = s.b
    · rw [if_pos q2] at h
      rw [if_pos q2.symm]
      by_cases q3 : r.h = s.h
      · rw [if_pos q3] at h
        rw [if_pos q3.symm]
        by_cases q4 : r.m = s.m
        · rw [if_pos q4] at h
          cases h
        · rw [if_neg q4] at h
          rw [if_neg fun z => q4 z.symm]
          exact fin h
      · rw [if_neg q3] at h
        rw [if_neg fun z => q3 z.symm]
        exact fin h
    · rw [if_neg q2] at h
      rw [if_neg fun z => q2 z.symm]
      exact fin h
  · rw [if_neg q1] at h
    rw [if_neg fun z => q1 z.symm]
    exact fin h
theorem cut_tail {α : Type} {n k : Nat} (f : α → D) (l : List α) (h : n ≤ l.length) : DL.cutD (l.map f) (some (n : Int)) none = (l.drop n).map f := by
  unfold DL.cutD
  rw [HT.sIx_nat, HT.sIx_none, List.length_map, Nat.min_eq_left h, List.map_drop]
  refine List.take_of_length_le ?_
  rw [List.length_drop, List.length_map]
  omega
theorem cut_mid {α : Type} {a b : Nat} (f : α → D) (l : List α) (h : a ≤ l.length) : DL.cutD (l.map f) (some (a : Int)) (some (b : Int)) = ((l.drop a).take (b - a)).map f := by
  unfold DL.cutD
  rw [HT.sIx_nat, HT.sIx_nat, List.length_map, Nat.min_eq_left h, ← List.map_drop, ← List.map_take]
  refine congrArg (List.map f) ?_
  by_cases hb : b ≤ l.length
  · rw [Nat.min_eq_left hb]
  · rw [Nat.min_eq_right (by omega), List.take_of_length_le (by rw [List.length_drop]; omega), List.take_of_length_le (by rw [List.length_drop]; omega)]
section
variable {K : PySem.W.Frag} {ss : Sl} {mem m1 m2 : List Mc} {te to : TE}
/-- a comprehension over a tuple, any target, said by its items -/
theorem dt_lcTT {α : Type} {g : TG} {vs : List Nat} {tx : TE} (gd : α → D) (z : α) (l : List α) (h : DT K te ss mem (.dat (.tup (l.map gd))) m1) (few : l.length ≤ 16777216) (v : α → D)
    (step : ∀ x ∈ l, ∃ s1 ws, DG K g (wipeS ss vs) (gd x) s1 ws ∧ (∀ w ∈ ws, w ∈ vs) ∧ DT K tx s1 m1 (.dat (v x)) m1) : DT K (tLc (iTup K te) g tYes tx vs) ss mem (.tl (l.map v)) m1 := by
  have e : l.map v = (List.range l.length).map fun i => v (l.getD i z) := by
    conv => lhs; rw [← range_get z l]
    rw [List.map_map]
    rfl
  have d := di_tup h
  rw [List.length_map] at d
  rw [e]
  refine dt_lcMapT d (fun i => v (l.getD i z)) few fun i hi => ?_
  rw [nthD_map gd hi z]
  exact step _ (getD_in hi z)
theorem dt_ltrueS {x : Str} (e : x = "") (h : DT K te ss mem (.dat (.str x)) m1) : DB K (tTruL K te) ss mem false m1 := by
  subst e
  have z := db_truS h (by decide +kernel)
  have e : ((Str.length "" : Int) != 0) = false := by decide +kernel
  rwa [e] at z
end
section
variable {P : Program} {w : World} {K : PySem.W.Frag} {mg : Str → Option Value} {base : Heap} {k : Nat}
/-! reading a value -/
def R_value_of (ds : List D) (d : D) : Prop := ∃ v, Dig v ∧ ds = [.str (vtx v)] ∧ d = optD v
theorem dig_tab : ∀ n : Nat, n < 10 → (vtx (some (n : Int)), (n : Int)) ∈ tab_DIGITS := by decide +kernel
theorem dig_sign : ∀ n : Nat, n < 10 → vtx (some (n : Int)) ≠ "-" := by decide +kernel
theorem ok_value_of (T : Txt w K mg) : FnOk P w K mg base CX0 1 T.a_value_of T.fd_value_of ["word"] (spP K 1 R_value_of) := by
  refine fnP T.F_value_of sc_value_of rfl (fun cdv A outer s H E hr => ?_)
  refine ⟨_, (pss_one (ps_ret (pe_ifExp (pt_cmpR op_eq (pv 0) pe_str (nomark _)) pe_non (peKGet K w (pe_glob (v := .ref T.D_DIGITS) (by rfl) T.g_DIGITS rfl) T.K_DIGITS (pv 0) (pe_globI (by rfl) T.k_NO_VALUE) ⟨rfl, rfl, rfl, rfl⟩)))), ?_⟩
  rintro ds d ⟨v, h, rfl, rfl⟩ -
  refine .rt (ds_ret ?_)
  cases v with
  | none => exact dt_if_t (db_is (db_test (dt_eqS (dt_var rfl) dt_str)) (decide_eq_true rfl)) dt_non
  | some i =>
    obtain ⟨h0, h1⟩ := h i rfl
    refine dt_if_f (db_is (db_test (dt_eqS (dt_var rfl) dt_str)) (decide_eq_false (dig_cases (p := fun i => vtx (some i) ≠ "-") h0 h1 dig_sign))) ?_
    obtain ⟨u, e, r⟩ := T.v_DIGITS _ (dig_cases (p := fun i => (vtx (some i), i) ∈ tab_DIGITS) h0 h1 dig_tab)
    exact dt_kget (dt_var rfl) dt_int e r
def R_values_in (ds : List D) (d : D) : Prop := ∃ x y vs, plain x ∧ (∀ v ∈ vs, Dig v) ∧ x.length ≤ 10 ∧ vs.length ≤ 10 ∧ ds = [.str (lnS x vs), .str y] ∧ d = .tup (if x = y then vs.map optD else [])
theorem ok_values_in (T : Txt w K mg) : FnOk P w K mg base CX0 2 T.a_values_in T.fd_values_in ["line", "word"] (spP K 2 R_values_in) := by
  refine fnP T.F_values_in sc_values_in rfl (fun cdv A outer s H E hr => ?_)
  refine ⟨_, (pss_cons (ps_set (i := 2) sc_values_in.nd rfl (.inl rfl) (peSplit (pv 0) pe_str))
  (pss_one (ps_ret (pe_ifExp (pt_cmpR op_eq (pe_ix (ixL K) (pv 2) pe_int (fun _ _ => rfl)) (pv 1) (nomark _)) (pe_tupleOf (by rfl) T.n_tuple (pe_lc (own := [("each", 3)]) rfl sc_values_in.nd (piList K (pe_slice (slL K) (pv 2) (po_some pe_int) po_none)) (blkOk_by (own := [("each", 3)]) (N := ["line", "word", "words", "each"]) (sc := defScope s_values_in) (by decide +kernel)) (fun _ _ _ _ _ => (pg_name (i := 3) sc_values_in.nd rfl (.inl rfl))) (fun _ _ _ _ _ => pts_nil) (fun _ _ _ _ _ => (pe_call (ok_value_of T) (hr.mono (by decide)) (by rfl) T.g_value_of T.F_value_of.kp T.b_value_of .nil pass0 (pa_cons (pv 3) pa_nil))))) (pe_tup pa_nil))))), ?_⟩
  rintro ds d ⟨x, y, vs, hx, hv, lx, lv, rfl, rfl⟩ -
  have sp := dt_split (K := K) (ss := [some (.dat (.str (lnS x vs))), some (.dat (.str y)), none, none]) (mem := []) (m1 := []) (m2 := []) (y := " ") (dt_var (i := 0) rfl) dt_str (by decide +kernel) (by rw [len_ln hv]; omega)
  rw [ln_split hx hv] at sp
  refine .rt (ds_seq (ds_set (i := 2) sp) (ds_ret ?_))
  have test := dt_eqS (K := K) (ss := [some (.dat (.str (lnS x vs))), some (.dat (.str y)), some (.dat (.lst ((x :: vs.map vtx).map D.str))), none]) (mem := []) (x := x) (y := y) (dt_ixL (dt_var (i := 2) rfl) (dt_int (i := 0)) (atI_map D.str (by decide) (by rw [List.length_cons]; omega) "")) (dt_var (i := 1) rfl)
  by_cases e : x = y
  · rw [if_pos e]
    refine dt_if_t (db_is (db_test test) (decide_eq_true e)) (dt_tupleL (dt_tl (dt_lcGT (fun v => D.str (vtx v)) none vs ?_ (by omega) optD fun v hv' => ⟨_, _, dg_name, by decide, dt_call (da_cons (dt_var (i := 3) rfl) da_nil) ⟨v, hv v hv', rfl, rfl⟩⟩)))
    have c := cut_tail (n := 1) (k := 0) D.str (x :: vs.map vtx) (by simp)
    have e2 : ((x :: vs.map vtx).drop 1).map D.str = vs.map fun v => D.str (vtx v) := by
      rw [List.drop_one, List.tail_cons, List.map_map]
      rfl
    rw [e2] at c
    exact c ▸ dt_slL (dt_var (i := 2) rfl) (do_some dt_int) do_none
  · rw [if_neg e]
    exact dt_if_f (db_is (db_test test) (decide_eq_false e)) (dt_tup da_nil)
def R_split (ds : List D) (d : D) : Prop := ∃ x : Str, x.length ≤ 1000 ∧ ds = [.str x] ∧ d = .lst ((Txt.split x "\n").map .str)
theorem ok_split_lines (T : Txt w K mg) : FnOk P w K mg base CX0 1 T.a_split_lines T.fd_split_lines ["text"] (spP K 1 R_split) := by
  refine fnP T.F_split_lines sc_split_lines rfl (fun cdv A outer s H E hr => ?_)
  refine ⟨_, (pss_cons (ps_if (pt_not (pt_val (pe_callB (callIsi K) (by rfl) T.n_isinstance (by decide +kernel) (pa_cons (pv 0) (pa_cons (pe_bltn (v := .ty "str") (by rfl) T.n_str (by decide +kernel) rfl) pa_nil))))) (pss_one ps_never) pss_nil)
  (pss_one (ps_ret (peSplit (pv 0) pe_str)))), ?_⟩
  rintro ds d ⟨x, lx, rfl, rfl⟩ -
  exact .rt (ds_guard (db_not (b := true) (db_b (dt_isi (dt_var rfl) rfl (by decide +kernel)))) (ds_ret (dt_split (dt_var rfl) dt_str (by decide +kernel) (by omega))))
def R_line_at (ds : List D) (d : D) : Prop := ∃ (rows : List Str) (i : Int), 0 ≤ i ∧ i < rows.length ∧ ds = [.lst (rows.map .str), .int i] ∧ d = .str (rows.getD i.toNat "")
theorem ok_line_at (T : Txt w K mg) : FnOk P w K mg base CX0 1 T.a_line_at T.fd_line_at ["lines", "row"] (spP K 2 R_line_at) := by
  refine fnP T.F_line_at sc_line_at rfl (fun cdv A outer s H E hr => ?_)
  refine ⟨_, (pss_one (ps_ret (pe_ifExp (pt_cmpR op_lt (pv 1) (pe_callB (callLen K) (by rfl) T.n_len PySem.boot_len (pa_cons (pv 0) pa_nil)) (nomark _)) (pe_ix (ixL K) (pv 0) (pv 1) (fun _ _ => rfl)) pe_str))), ?_⟩
  rintro ds d ⟨rows, i, h0, h1, rfl, rfl⟩ -
  refine .rt (ds_ret (dt_if_t (db_is (db_test (dt_i0b (dt_var rfl) (dt_lenL (dt_var rfl)))) (decide_eq_true ?_)) (dt_ixL (dt_var rfl) (dt_var rfl) (atI_map D.str h0 h1 ""))))
  rw [List.length_map]
  exact h1
/-! writing a line -/
def R_line (ds : List D) (d : D) : Prop := ∃ x vs, (∀ v ∈ vs, Dig v) ∧ x.length ≤ 10 ∧ vs.length ≤ 10 ∧ ds = [.str x, .tup (vs.map optD)] ∧ d = .str (lnS x vs ++ "\n")
theorem line_body {x : Str} {vs : List (Option Int)} {ss : Sl} {ta tb : TE} (hv : ∀ v ∈ vs, Dig v) (lx : x.length ≤ 10) (lv : vs.length ≤ 10) (hl : DT K tb ss [] (.tl ((x :: vs.map vtx).map D.str)) []) :
    DT K (tOp rAddS (tM1 (rJoin K) (tC (.str " ")) tb) (tC (.str "\n"))) ss [] (.dat (.str (lnS x vs ++ "\n"))) [] := by
  have l1 : Str.length " " = 1 := by decide +kernel
  have l2 : Str.length "\n" = 1 := by decide +kernel
  refine dt_addS (dt_join (ys := x :: vs.map vtx) dt_str (dt_tl hl) ?_) dt_str ?_
  · have z := sum_vtx (f := fun n => n) hv
    rw [List.map_cons, List.sum_cons, z, l1, List.length_cons, List.length_map]
    omega
  · show (lnS x vs).length + _ ≤ _
    rw [len_ln hv, l2]
    omega
theorem ok_line_of (T : Txt w K mg) : FnOk P w K mg base CX0 1 T.a_line_of T.fd_line_of ["word", "values"] (spP K 2 R_line) := by
  refine fnP T.F_line_of sc_line_of rfl (fun cdv A outer s H E hr => ?_)
  refine ⟨_, (pss_one (ps_ret (pe_op opAddS (peJoin K pe_str (pe_op op_cat (pe_lst (pa_cons (pv 0) pa_nil)) (pe_lc (own := [("value", 2)]) rfl sc_line_of.nd (piTup K (pv 1)) (blkOk_by (own := [("value", 2)]) (N := ["word", "values", "value"]) (sc := defScope s_line_of) (by decide +kernel)) (fun _ _ _ _ _ => (pg_name (i := 2) sc_line_of.nd rfl (.inl rfl))) (fun _ _ _ _ _ => pts_nil) (fun _ _ _ _ _ => (pe_ifExp (pt_cmp (pc_isN (pv 2))) pe_str (pe_callTy callStrI (by rfl) T.n_str (by decide +kernel) (pa_cons (pv 2) pa_nil))))))) pe_str))), ?_⟩
  rintro ds d ⟨x, vs, hv, lx, lv, rfl, rfl⟩ -
  refine .rt (ds_ret (line_body (ta := tVar 0) hv lx lv (dt_catT (ds := [.str x]) (es := (vs.map vtx).map D.str) (dt_lstT (da_cons (dt_var (i := 0) rfl) da_nil)) ?_ (by rw [List.length_map, List.length_map]; show 1 + _ ≤ _; omega))))
  rw [List.map_map]
  refine dt_lcTT optD none vs (dt_var (i := 1) rfl) (by omega) (D.str ∘ vtx) fun v hv' => ⟨_, _, dg_name, by decide, ?_⟩
  cases v with
  | none => exact dt_if_t (db_test (dt_isN (d := .non) (dt_var (i := 2) rfl))) dt_str
  | some i =>
    obtain ⟨h0, h1⟩ := hv _ hv' i rfl
    exact dt_if_f (db_test (dt_isN (d := .int i) (dt_var (i := 2) rfl))) (dt_strI (dt_var (i := 2) rfl) (Nat.lt_of_le_of_lt (Nat.log2_le_self _) (by omega)))
theorem ok__law_line (T : Txt w K mg) : FnOk P w K mg base CX0 1 T.a__law_line T.fd__law_line ["_law_head", "_law_items"] (spP K 2 R_line) := by
  refine fnP T.F__law_line sc__law_line rfl (fun cdv A outer s H E hr => ?_)
  refine ⟨_, (pss_one (ps_ret (pe_op opAddS (peJoin K pe_str (pe_op op_cat (pe_lst (pa_cons (pv 0) pa_nil)) (pe_lc (own := [("_law_one", 2)]) rfl sc__law_line.nd (piTup K (pv 1)) (blkOk_by (own := [("_law_one", 2)]) (N := ["_law_head", "_law_items", "_law_one"]) (sc := defScope s__law_line) (by decide +kernel)) (fun _ _ _ _ _ => (pg_name (i := 2) sc__law_line.nd rfl (.inl rfl))) (fun _ _ _ _ _ => pts_nil) (fun _ _ _ _ _ => (pe_ifExp (pt_cmp (pc_isN (pv 2))) pe_str (pe_callTy callStrI (by rfl) T.n_str (by decide +kernel) (pa_cons (pv 2) pa_nil))))))) pe_str))), ?_⟩
  rintro ds d ⟨x, vs, hv, lx, lv, rfl, rfl⟩ -
  refine .rt (ds_ret (line_body (ta := tVar 0) hv lx lv (dt_catT (ds := [.str x]) (es := (vs.map vtx).map D.str) (dt_lstT (da_cons (dt_var (i := 0) rfl) da_nil)) ?_ (by rw [List.length_map, List.length_map]; show 1 + _ ≤ _; omega))))
  rw [List.map_map]
  refine dt_lcTT optD none vs (dt_var (i := 1) rfl) (by omega) (D.str ∘ vtx) fun v hv' => ⟨_, _, dg_name, by decide, ?_⟩
  cases v with
  | none => exact dt_if_t (db_test (dt_isN (d := .non) (dt_var (i := 2) rfl))) dt_str
  | some i =>
    obtain ⟨h0, h1⟩ := hv _ hv' i rfl
    exact dt_if_f (db_test (dt_isN (d := .int i) (dt_var (i := 2) rfl))) (dt_strI (dt_var (i := 2) rfl) (Nat.lt_of_le_of_lt (Nat.log2_le_self _) (by omega)))
end
end K34
end
section
set_option Elab.async false
set_option linter.all false
set_option maxRecDepth 100000
set_option maxHeartbeats 4000000
namespace K34
open PySem PySem.Spec PyProof.Rows L2 DL
/-! ### reading roads -/
section
variable {M : MapD}
theorem row_road {i : Nat} (h : i < M.roads.length) : (MapD.rows M).getD (i + 1) "" = lnS "road" (Road.vals (M.road i)) := by
  unfold MapD.rows MapD.tops MapD.road
  rw [List.getD_eq_getElem?_getD, List.getElem?_append_left (by rw [List.length_cons, List.length_map]; omega), List.getElem?_cons_succ, List.getElem?_map, List.getElem?_eq_getElem h, List.getD_eq_getElem?_getD, List.getElem?_eq_getElem h]
  rfl
theorem row_prices : (MapD.rows M).getD (M.roads.length + 1) "" = lnS "prices" M.prices := by
  unfold MapD.rows MapD.tops
  rw [List.getD_eq_getElem?_getD, List.getElem?_append_right (by rw [List.length_cons, List.length_map]; omega), List.length_cons, List.length_map, Nat.sub_self]
  rfl
theorem row_box : (MapD.rows M).getD (M.roads.length + 1 + 1) "" = lnS "box" [some M.room, some M.bear] := by
  unfold MapD.rows MapD.tops
  rw [List.getD_eq_getElem?_getD, List.getElem?_append_right (by rw [List.length_cons, List.length_map]; omega), List.length_cons, List.length_map, Nat.add_sub_cancel_left]
  rfl
theorem mid_get {rows : List Str} {i : Nat} (h : i < 7) : ((rows.drop 1).take 7).getD i "" = rows.getD (i + 1) "" := by
  rw [List.getD_eq_getElem?_getD, List.getElem?_take_of_lt h, List.getElem?_drop, Nat.add_comm, List.getD_eq_getElem?_getD]
end
section
variable {P : Program} {w : World} {K : PySem.W.Frag} {mg : Str → Option Value} {base : Heap} {k : Nat}
def R_roadB (ds : List D) (d : D) : Prop := (∃ n r, ds = [.int n, roadD r] ∧ r.Ok n ∧ d = .bl true) ∨ ∃ n, ds = [.int n, .tup []] ∧ d = .bl false
theorem ok_is_roadB (T : Txt w K mg) : FnOk P w K mg base CX0 3 T.a_is_road T.fd_is_road ["places", "road"] (spP K 2 R_roadB) := by
  refine fnP T.F_is_road sc_is_road rfl (fun cdv A outer s H E hr => ?_)
  refine ⟨_, (pss_cons (ps_if (pt_not (pt_val (pe_call (ok_is_group T) (hr.mono (by decide)) (by rfl) T.g_is_group T.F_is_group.kp T.b_is_group .nil pass0 (pa_cons (pv 1) (pa_cons pe_int pa_nil))))) (pss_one (ps_ret pe_bl)) pss_nil)
  (pss_cons (ps_asg (pv 1) (pgTup K 4 (pgs_cons (pg_name (i := 2) sc_is_road.nd rfl (.inl rfl)) (pgs_cons (pg_name (i := 3) sc_is_road.nd rfl (.inl rfl)) (pgs_cons (pg_name (i := 4) sc_is_road.nd rfl (.inl rfl)) (pgs_cons (pg_name (i := 5) sc_is_road.nd rfl (.inl rfl)) pgs_nil))))))
  (pss_cons (ps_if (PW.pt (pw_or (pt_not (pt_val (pe_call (ok_is_between T) (hr.mono (by decide)) (by rfl) T.g_is_between T.F_is_between.kp T.b_is_between .nil pass0 (pa_cons (pv 2) (pa_cons pe_int (pa_cons (pe_op op_sub (pv 0) pe_int) pa_nil)))))) (pw_or1 (pt_not (pt_val (pe_call (ok_is_between T) (hr.mono (by decide)) (by rfl) T.g_is_between T.F_is_between.kp T.b_is_between .nil pass0 (pa_cons (pv 3) (pa_cons pe_int (pa_cons (pe_op op_sub (pv 0) pe_int) pa_nil))))))))) (pss_one (ps_ret pe_bl)) pss_nil)
  (pss_one (ps_ret (pe_and (pe_cmpR op_lt (pv 2) (pv 3) (nomark _)) (pe_and (pe_call (ok_is_between T) (hr.mono (by decide)) (by rfl) T.g_is_between T.F_is_between.kp T.b_is_between .nil pass0 (pa_cons (pv 4) (pa_cons pe_int (pa_cons (pe_globI (by rfl) T.k_MOST_HOURS) pa_nil)))) (pe_one (pe_call (ok_is_between T) (hr.mono (by decide)) (by rfl) T.g_is_between T.F_is_between.kp T.b_is_between .nil pass0 (pa_cons (pv 5) (pa_cons pe_int (pa_cons (pe_globI (by rfl) T.k_MOST_MELT) pa_nil)))))))))))), ?_⟩
  rintro ds d (⟨n, r, rfl, h, rfl⟩ | ⟨n, rfl, rfl⟩) -
  · have a0 := h.a0
    have ab := h.ab
    have bn := h.bn
    have h1 := h.h1
    have h4 := h.h4
    have m0 := h.m0
    have m3 := h.m3
    refine .rt (ds_guard (db_nt (dt_call (da_cons (dt_var rfl) (da_cons dt_int da_nil)) ⟨_, _, rfl, rfl⟩)) ?_)
    refine ds_seq (ds_asg (dt_var rfl) (dg_tup (dgs_cons dg_name (dgs_cons dg_name (dgs_cons dg_name (dgs_cons dg_name dgs_nil)))) rfl)) ?_
    refine ds_guard (db_or_f (db_nt (dt_call (da_cons (dt_var rfl) (da_cons dt_int (da_cons (dt_i0 (dt_var rfl) dt_int) da_nil))) ⟨r.a, 0, n - 1, rfl, bt a0 (by omega)⟩)) (db_nt (dt_call (da_cons (dt_var rfl) (da_cons dt_int (da_cons (dt_i0 (dt_var rfl) dt_int) da_nil))) ⟨r.b, 0, n - 1, rfl, bt (by omega) bn⟩))) ?_
    have q : DT K (tOp (rI0 fun i j => V.bl (decide (i < j))) (tVar 2) (tVar 3)) [some (.dat (.int n)), some (.dat (roadD r)), some (.dat (.int r.a)), some (.dat (.int r.b)), some (.dat (.int r.h)), some (.dat (.int r.m))] [] (.dat (.bl (decide (r.a < r.b)))) [] := dt_i0b (dt_var rfl) (dt_var rfl)
    rw [decide_eq_true ab] at q
    exact ds_ret (dt_andV_t (b := true) q (dt_andV_t (b := true) (dt_call (da_cons (dt_var rfl) (da_cons dt_int (da_cons dt_int da_nil))) ⟨r.h, 1, 4, rfl, bt h1 h4⟩) (dt_call (da_cons (dt_var rfl) (da_cons dt_int (da_cons dt_int da_nil))) ⟨r.m, 0, 3, rfl, bt m0 m3⟩)))
  · refine .rt (ds_stop (ds_if_t (db_not (b := false) (db_b (dt_call (da_cons (dt_var rfl) (da_cons dt_int da_nil)) ⟨[], 4, rfl, ?_⟩))) (ds_ret dt_bl)))
    exact congrArg D.bl (by decide)
def R_roads_in (ds : List D) (d : D) : Prop := ∃ M : MapD, M.Ok ∧ ds = [.lst ((MapD.rows M).map .str), .int M.places] ∧ d = .tup (M.roads.map roadD)
theorem ok_roads_in (T : Txt w K mg) : FnOk P w K mg base CX0 4 T.a_roads_in T.fd_roads_in ["lines", "places"] (spP K 2 R_roads_in) := by
  refine fnP T.F_roads_in sc_roads_in rfl (fun cdv A outer s H E hr => ?_)
  refine ⟨_, (pss_cons (ps_set (i := 2) sc_roads_in.nd rfl (.inl rfl) (pe_tup pa_nil))
  (pss_cons (ps_for PassesOwn.never rfl (piList K (pe_slice (slL K) (pv 0) (po_some pe_int) (po_some (pe_op op_add (pe_globI (by rfl) T.k_MOST_ROADS) pe_int)))) (pg_name (i := 3) sc_roads_in.nd rfl (.inl rfl)) (pss_cons (ps_set (i := 4) sc_roads_in.nd rfl (.inl rfl) (pe_call (ok_values_in T) (hr.mono (by decide)) (by rfl) T.g_values_in T.F_values_in.kp T.b_values_in .nil pass0 (pa_cons (pv 3) (pa_cons pe_str pa_nil))))
  (pss_cons (ps_if (PW.pt (pw_or (pt_not (pt_val (pe_call (ok_is_roadB T) (hr.mono (by decide)) (by rfl) T.g_is_road T.F_is_road.kp T.b_is_road .nil pass0 (pa_cons (pv 1) (pa_cons (pv 4) pa_nil))))) (pw_or1 (PW.pt (pw_and (ptTru K (pv 2)) (pw_and1 (pt_cmpR (opLeT K hr.units0) (pv 4) (pe_ix (ixT K) (pv 2) (pe_un un_neg pe_int) (fun _ _ => rfl)) (nomark _)))))))) (pss_one ps_break) pss_nil)
  (pss_one (ps_set (i := 2) sc_roads_in.nd rfl (.inl rfl) (pe_op (opCatA K) (pv 2) (pe_tup (pa_cons (pv 4) pa_nil))))))))
  (pss_one (ps_ret (pv 2))))), ?_⟩
  rintro ds d ⟨M, h, rfl, rfl⟩ -
  have r7 := h.r7
  have p5 := h.p5
  have pl := h.pl
  have rc := rows_count (M := M)
  let n := M.roads.length
  let cut : List Str := ((MapD.rows M).drop 1).take 7
  have hn : n = M.roads.length := rfl
  have lc : cut.length = min 7 (n + 2) := by
    show (((MapD.rows M).drop 1).take 7).length = _
    rw [List.length_take, List.length_drop, rc]
    omega
  let f : Nat → Sl := fun i => [some (.dat (.lst ((MapD.rows M).map .str))), some (.dat (.int M.places)), some (.dat (.tup ((M.roads.take i).map roadD))), none, none]
  have walk : DI K (iList K (tSl (rSlL K) (tVar 0) (tPart (tC (.int 1))) (tPart (tOp (rI0 fun i j => V.int (i + j)) (tC (.int 7)) (tC (.int 1)))))) (f 0) [] cut.length (nthD (cut.map D.str)) [] := by
    refine di_map D.str cut ?_
    have c := cut_mid (a := 1) (b := 8) D.str (MapD.rows M) (by omega)
    exact c ▸ dt_slL (dt_var (i := 0) rfl) (do_some dt_int) (do_some (dt_i0 (i := 7) (j := 1) dt_int dt_int))
  have read : ∀ {x : Str} {vs : List (Option Int)} {ss : Sl} {E : XK}, ss[3]? = some (some (.dat (.str (lnS x vs)))) → plain x → (∀ v ∈ vs, Dig v) → x.length ≤ 10 → vs.length ≤ 10 →
      DT K (tCall (spP K 2 R_values_in) [] E (tCons (tVar 3) (tCons (tC (.str "road")) tNil))) ss [] (.dat (.tup (if x = "road" then vs.map optD else []))) [] :=
    fun e h1 h2 h3 h4 => dt_call (da_cons (dt_var e) (da_cons dt_str da_nil)) ⟨_, "road", _, h1, h2, h3, h4, rfl, rfl⟩
  have itm : ∀ i, i < cut.length → nthD (cut.map D.str) i = .str ((MapD.rows M).getD (i + 1) "") := fun i hi => by
    rw [nthD_map D.str hi ""]
    exact congrArg D.str (mid_get (by omega))
  have step : ∀ i, i < n → ∃ s1 ws, DG K (gName 3) (f i) (nthD (cut.map D.str) i) s1 ws ∧ DS K (tSeq (tAsg (tCall (spP K 2 R_values_in) [] E0 (tCons (tVar 3) (tCons (tC (.str "road")) tNil))) (gName 4)) (tSeq (tIfS (tOr (tNot (tB (tCall (spP K 2 R_roadB) [] E0 (tCons (tVar 1) (tCons (tVar 4) tNil))))) (tAnd (tTruL K (tVar 2)) (tTest (tOp (rLeT K) (tVar 4) (tOp (rIxT K) (tVar 2) (tUn (rU fun i => V.int (-i)) (tC (.int 1)))))))) tBreak tNext) (tAsg (tOp (rCatA K) (tVar 2) (tTup (tCons (tVar 4) tNil))) (gName 2)))) s1 [] (.nx (f (i + 1)) []) := fun i hi => by
    have hi' : i < M.roads.length := hi
    rw [itm i (by omega), row_road hi']
    have ok := h.rd (M.road i) (by
      unfold MapD.road
      exact getD_in hi' _)
    have dig := road_dig ok p5
    have e2 : (M.roads.take (i + 1)).map roadD = (M.roads.take i).map roadD ++ [roadD (M.road i)] := by
      rw [List.take_add_one, List.getElem?_eq_getElem hi', List.map_append]
      unfold MapD.road
      rw [List.getD_eq_getElem?_getD, List.getElem?_eq_getElem hi']
      rfl
    have rd := read (ss := (f i).set 3 (some (.dat (.str (lnS "road" (Road.vals (M.road i))))))) (E := E0) rfl (by decide +kernel) dig (by decide +kernel) (by show 4 ≤ 10; decide)
    rw [if_pos rfl] at rd
    let sa : Sl := ((f i).set 3 (some (.dat (.str (lnS "road" (Road.vals (M.road i))))))).set 4 (some (.dat (roadD (M.road i))))
    refine ⟨_, _, dg_name, ds_wipe [3, 4] (ss1 := sa.set 2 (some (.dat (.tup ((M.roads.take (i + 1)).map roadD))))) (ds_seq (ss1 := sa) (m1 := []) (ds_set (i := 4) rd) (ds_guard (m1 := []) (db_or_f (m1 := []) (db_nt (dt_call (da_cons (dt_var (i := 1) rfl) (da_cons (dt_var (i := 4) rfl) da_nil)) (.inl ⟨M.places, M.road i, rfl, ok, rfl⟩))) ?_) ?_)) rfl⟩
    · by_cases h0 : i = 0
      · exact db_and_f (db_is (db_truT (ds := (M.roads.take i).map roadD) (dt_var (i := 2) rfl)) (by rw [h0, List.take_zero]; rfl))
      · have ll : ((M.roads.take i).map roadD).length = i := by rw [List.length_map, List.length_take]; omega
        have ne : ((M.roads.take i).map roadD).isEmpty = false := by
          cases q : (M.roads.take i).map roadD with
          | nil =>
            rw [q] at ll
            exact absurd ll.symm h0
          | cons _ _ => rfl
        have hv : DT K (tVar 4) sa [] (.dat (roadD (M.road i))) [] := dt_var rfl
        have asc := h.asc (i - 1) (by omega)
        rw [show i - 1 + 1 = i by omega] at asc
        refine db_and_t (m1 := []) (db_is (db_truT (ds := (M.roads.take i).map roadD) (dt_var (i := 2) rfl)) (by rw [ne]; rfl)) (db_is (db_test (dt_leT (ns := (M.road i).row) (ms := (M.road (i - 1)).row) hv (dt_ixT (ds := (M.roads.take i).map roadD) (dt_var (i := 2) rfl) (dt_un (g := fun a => -a) dt_int) ?_))) (le_false asc))
        show L2.atI ((M.roads.take i).map roadD) (-1) = some (roadD (M.road (i - 1)))
        unfold L2.atI
        rw [ll]
        have ix : L2.ixN i (-1) = some (i - 1) := by
          unfold L2.ixN
          rw [if_neg (by decide), if_pos (by omega)]
          exact congrArg some (by omega)
        rw [ix]
        show ((M.roads.take i).map roadD)[i - 1]? = _
        rw [List.getElem?_map, List.getElem?_take_of_lt (by omega), List.getElem?_eq_getElem (by omega)]
        unfold MapD.road
        rw [List.getD_eq_getElem?_getD, List.getElem?_eq_getElem (by omega)]
        rfl
    · show DS K _ sa [] (.nx (sa.set 2 (some (.dat (.tup ((M.roads.take (i + 1)).map roadD))))) [])
      rw [e2]
      exact ds_set (i := 2) (dt_catTup (dt_var (i := 2) rfl) (dt_tup (da_cons (dt_var (i := 4) rfl) da_nil)) (by rw [List.length_map, List.length_take]; show _ + 1 ≤ _; omega))
  have full : (M.roads.take n).map roadD = M.roads.map roadD := by rw [List.take_of_length_le (Nat.le_refl _)]
  by_cases h7 : M.roads.length = 7
  · refine .rt (ds_seq (ss1 := f 0) (m1 := []) (ds_set (i := 2) (dt_tup da_nil)) (ds_seq (ss1 := f n) (m1 := []) (ds_for walk f (fun _ => []) rfl rfl n (by omega) (fun i hi => ?_) (.inl ⟨by omega, ?_⟩)) (full ▸ ds_ret (dt_var (i := 2) rfl))))
    · obtain ⟨s1, ws, a, b⟩ := step i hi
      exact ⟨s1, ws, a, .inl b⟩
    · have e : cut.length = n := by omega
      rw [e]
  · let sb : Sl := ((f n).set 3 (some (.dat (.str (lnS "prices" M.prices))))).set 4 (some (.dat (.tup [])))
    refine .rt (ds_seq (ss1 := f 0) (m1 := []) (ds_set (i := 2) (dt_tup da_nil)) (ds_seq (ss1 := sb) (m1 := []) (ds_for walk f (fun _ => []) rfl rfl n (by omega) (fun i hi => ?_) (.inr ⟨by omega, ?_⟩)) (full ▸ ds_ret (dt_var (i := 2) rfl))))
    · obtain ⟨s1, ws, a, b⟩ := step i hi
      exact ⟨s1, ws, a, .inl b⟩
    · rw [itm n (by omega), row_prices]
      have rd := read (ss := (f n).set 3 (some (.dat (.str (lnS "prices" M.prices))))) (E := E0) rfl (by decide +kernel) (prices_dig h) (by decide +kernel) (by omega)
      rw [if_neg (by decide +kernel)] at rd
      refine ⟨_, _, dg_name, .inr ⟨sb, [], ds_seq (ss1 := sb) (m1 := []) (ds_set (i := 4) rd) (ds_stop (ds_if_t (db_or_t (db_not (b := false) (db_b (dt_call (da_cons (dt_var (i := 1) rfl) (da_cons (dt_var (i := 4) rfl) da_nil)) (.inr ⟨M.places, rfl, rfl⟩))))) ds_break)), rfl⟩⟩
end
end K34
end
section
set_option Elab.async false
set_option linter.all false
set_option maxRecDepth 100000
set_option maxHeartbeats 4000000
namespace K34
open PySem PySem.Spec PyProof.Rows L2 DL TL
/-! ### whole texts -/
theorem sum_join (ys : List Str) : (ys.map (·.length)).sum + ys.length * Str.length "" = (Txt.join "" ys).length := by
  have e : Str.length "" = 0 := by decide +kernel
  rw [e, Nat.mul_zero, Nat.add_zero, join_eq, len_tl, tl_join, tl_empty, joinL_nil, List.length_flatten, List.map_map]
  exact congrArg List.sum (List.map_congr_left fun x _ => len_tl x)
theorem sum_few {b : Nat} : ∀ {ys : List Str}, (∀ y ∈ ys, y.length ≤ b) → (ys.map (·.length)).sum ≤ ys.length * b
  | [], _ => Nat.zero_le _
  | y :: ys, h => by
    have h1 := h y List.mem_cons_self
    have h2 := sum_few fun x hx => h x (List.mem_cons_of_mem _ hx)
    rw [List.map_cons, List.sum_cons, List.length_cons, Nat.add_mul]
    omega
theorem fs_eq (x y z : Str) : Str.empty ++ x ++ y ++ z = x ++ y ++ z := by
  refine ext_tl ?_
  simp only [tl_append]
  have e : tl Str.empty = [] := by decide +kernel
  rw [e, List.nil_append]
theorem words_eqv : PyData.eqv (.tuple (D.pyAll (stWords.map D.str))) (.tuple (D.pyAll (stWords.map D.str))) = true := by decide +kernel
theorem words_shaped : SeqAt.shaped (.tuple (D.pyAll (stWords.map D.str))) = true := by decide +kernel
def lineOf (q : Str × Option Int) : Str := q.1 ++ " " ++ vtx q.2
theorem line_parts (s : StD) : StD.line s = Txt.join " " ((stWords.zip (StD.vals s)).map lineOf) := rfl
theorem parts_len {M : MapD} {s : StD} (hM : M.Ok) (h : s.Ok M) : ∀ y ∈ (stWords.zip (StD.vals s)).map lineOf, y.length ≤ 6 := fun y hy => by
  obtain ⟨⟨w, v⟩, hq, rfl⟩ := List.mem_map.mp hy
  obtain ⟨h1, h2⟩ := List.of_mem_zip hq
  have lv := len_vtx (st_dig hM h v h2)
  have lw : ∀ w ∈ stWords, w.length ≤ 4 := by decide +kernel
  have l1 := lw w h1
  show (w ++ " " ++ vtx v).length ≤ 6
  rw [len_tl, tl_append, tl_append, tl_sp, List.length_append, List.length_append, ← len_tl, ← len_tl, lv]
  show w.length + 1 + 1 ≤ 6
  omega
section
variable {P : Program} {w : World} {K : PySem.W.Frag} {mg : Str → Option Value} {base : Heap} {k : Nat}
def R_map_text (C : Addr) (ds : List D) (d : D) : Prop := ∃ M : MapD, M.Ok ∧ ds = [mapD C M] ∧ d = .str (MapD.text M)
theorem ok_map_text (T : Txt w K mg) : FnOk P w K mg base CX0 3 T.a_map_text T.fd_map_text ["chart"] (spP K 1 (R_map_text T.C_Map)) := by
  refine fnP T.F_map_text sc_map_text rfl (fun cdv A outer s H E hr => ?_)
  refine ⟨_, (pss_cons (ps_expr (pe_call (ok_check_map T) (hr.mono (by decide)) (by rfl) T.g_check_map T.F_check_map.kp T.b_check_map .nil pass0 (pa_cons (pv 0) pa_nil)))
  (pss_cons (ps_set (i := 1) sc_map_text.nd rfl (.inl rfl) (pe_lst (pa_cons (pe_call (ok_line_of T) (hr.mono (by decide)) (by rfl) T.g_line_of T.F_line_of.kp T.b_line_of .nil pass0 (pa_cons pe_str (pa_cons (pe_tup (pa_cons (pe_prop (pv 0) T.cl T.PO_places (get_places (k := 0) T) (hr.mono (by decide)) T.b_Map_places .nil pass0 rfl) pa_nil)) pa_nil))) pa_nil)))
  (pss_cons (ps_expr (pe_bm PySem.F.plainAttrs_list PySem.F.slot_list_extend PySem.F.type_list_extend mt_extend (pv 1) (pa_cons (pe_lc (own := [("road", 2)]) rfl sc_map_text.nd (piTup K (pe_prop (pv 0) T.cl T.PO_roads (get_roads (k := 0) T) (hr.mono (by decide)) T.b_Map_roads .nil pass0 rfl)) (blkOk_by (own := [("road", 2)]) (N := ["chart", "lines", "road"]) (sc := defScope s_map_text) (by decide +kernel)) (fun _ _ _ _ _ => (pg_name (i := 2) sc_map_text.nd rfl (.inl rfl))) (fun _ _ _ _ _ => pts_nil) (fun _ _ _ _ _ => (pe_call (ok_line_of T) (hr.mono (by decide)) (by rfl) T.g_line_of T.F_line_of.kp T.b_line_of .nil pass0 (pa_cons pe_str (pa_cons (pv 2) pa_nil))))) pa_nil)))
  (pss_cons (ps_expr (pe_bm PySem.F.plainAttrs_list PySem.F.slot_list_append PySem.F.type_list_append mt_append (pv 1) (pa_cons (pe_call (ok_line_of T) (hr.mono (by decide)) (by rfl) T.g_line_of T.F_line_of.kp T.b_line_of .nil pass0 (pa_cons pe_str (pa_cons (pe_prop (pv 0) T.cl T.PO_prices (get_prices (k := 0) T) (hr.mono (by decide)) T.b_Map_prices .nil pass0 rfl) pa_nil))) pa_nil)))
  (pss_cons (ps_expr (pe_bm PySem.F.plainAttrs_list PySem.F.slot_list_append PySem.F.type_list_append mt_append (pv 1) (pa_cons (pe_call (ok_line_of T) (hr.mono (by decide)) (by rfl) T.g_line_of T.F_line_of.kp T.b_line_of .nil pass0 (pa_cons pe_str (pa_cons (pe_prop (pv 0) T.cl T.PO_box (get_box (k := 0) T) (hr.mono (by decide)) T.b_Map_box .nil pass0 rfl) pa_nil))) pa_nil)))
  (pss_one (ps_ret (peJoin K pe_str (pv 1))))))))), ?_⟩
  rintro ds d ⟨M, h, rfl, rfl⟩ -
  have r7 := h.r7
  have p5 := h.p5
  have pl := h.pl
  let sl : Sl := [some (.dat (mapD T.C_Map M)), some (.own 0), none]
  let l0 : D := .str (lnS "places" [some M.places] ++ "\n")
  let rs : List D := M.roads.map fun r => D.str (lnS "road" (Road.vals r) ++ "\n")
  let lp : D := .str (lnS "prices" M.prices ++ "\n")
  let lb : D := .str (lnS "box" [some M.room, some M.bear] ++ "\n")
  have rl : rs.length = M.roads.length := by show (M.roads.map _).length = _; rw [List.length_map]
  have e : [l0] ++ rs ++ [lp] ++ [lb] = ((MapD.rows M).map (fun r => r ++ ("\n" : Str))).map D.str := by
    unfold MapD.rows MapD.tops
    simp only [List.map_append, List.map_cons, List.map_nil, List.map_map]
    rw [List.append_assoc]
    rfl
  refine ⟨[.lst ([l0] ++ rs ++ [lp] ++ [lb])], .inl ?_⟩
  refine ds_seq (ss1 := [some (.dat (mapD T.C_Map M)), none, none]) (m1 := []) (ds_drop (dt_call (da_cons (dt_var rfl) da_nil) ⟨⟨M, rfl⟩, rfl⟩)) ?_
  refine ds_seq (ss1 := sl) (m1 := [.lst [l0]]) (ds_set (i := 1) (dt_lstO (da_cons (dt_call (da_cons dt_str (da_cons (dt_tup (da_cons (dt_prop (dt_var (i := 0) rfl) rfl) da_nil)) da_nil)) ⟨"places", [some M.places], places_dig h, by decide +kernel, by show 1 ≤ 10; decide, rfl, rfl⟩) da_nil))) ?_
  refine ds_seq (ss1 := sl) (m1 := [.lst ([l0] ++ rs)]) (ds_drop (dt_extend (n := 0) (ds := [l0]) (m1 := [.lst [l0]]) (m2 := [.lst [l0]]) (dt_var (i := 1) rfl) (dt_lcTT roadD ⟨0, 0, 0, 0⟩ M.roads (dt_prop (dt_var (i := 0) rfl) rfl) (by omega) (fun r => D.str (lnS "road" (Road.vals r) ++ "\n")) fun r hr => ⟨_, _, dg_name, by decide, ?_⟩) rfl rfl (by show 1 + rs.length ≤ _; omega))) ?_
  · exact dt_call (da_cons dt_str (da_cons (dt_var (i := 2) rfl) da_nil)) ⟨"road", Road.vals r, road_dig (h.rd r hr) p5, by decide +kernel, by show 4 ≤ 10; decide, rfl, rfl⟩
  refine ds_seq (ss1 := sl) (m1 := [.lst ([l0] ++ rs ++ [lp])]) (ds_drop (dt_append (n := 0) (ds := [l0] ++ rs) (m1 := [.lst ([l0] ++ rs)]) (m2 := [.lst ([l0] ++ rs)]) (dt_var (i := 1) rfl) (da_cons (dt_call (da_cons dt_str (da_cons (dt_prop (dt_var (i := 0) rfl) rfl) da_nil)) ⟨"prices", M.prices, prices_dig h, by decide +kernel, by omega, rfl, rfl⟩) da_nil) rfl rfl (by rw [List.length_append, rl]; show 1 + _ < _; omega))) ?_
  refine ds_seq (ss1 := sl) (m1 := [.lst ([l0] ++ rs ++ [lp] ++ [lb])]) (ds_drop (dt_append (n := 0) (ds := [l0] ++ rs ++ [lp]) (m1 := [.lst ([l0] ++ rs ++ [lp])]) (m2 := [.lst ([l0] ++ rs ++ [lp])]) (dt_var (i := 1) rfl) (da_cons (dt_call (da_cons dt_str (da_cons (dt_prop (dt_var (i := 0) rfl) rfl) da_nil)) ⟨"box", [some M.room, some M.bear], box_dig h, by decide +kernel, by show 2 ≤ 10; decide, rfl, rfl⟩) da_nil) rfl rfl (by rw [List.length_append, List.length_append, rl]; show 1 + _ + 1 < _; omega))) ?_
  refine ds_ret (dt_joinO (n := 0) (ys := (MapD.rows M).map (fun r => r ++ ("\n" : Str))) dt_str (dt_var (i := 1) rfl) ?_ ?_)
  · rw [← e]
    rfl
  · rw [sum_join]
    have z := text_len h
    show (MapD.text M).length ≤ _
    omega
def R_state_text (C : Addr) (ds : List D) (d : D) : Prop := ∃ M s, M.Ok ∧ s.Ok M ∧ ds = [mapD C M, stD s] ∧ d = .str (StD.text s)
theorem ok_state_text (T : Txt w K mg) : FnOk P w K mg base CX0 5 T.a_state_text T.fd_state_text ["chart", "state"] (spP K 2 (R_state_text T.C_Map)) := by
  refine fnP T.F_state_text sc_state_text rfl (fun cdv A outer s H E hr => ?_)
  refine ⟨_, (pss_cons (ps_expr (pe_call (ok_check_map T) (hr.mono (by decide)) (by rfl) T.g_check_map T.F_check_map.kp T.b_check_map .nil pass0 (pa_cons (pv 0) pa_nil)))
  (pss_cons (ps_expr (pe_call (ok_check_state T) (hr.mono (by decide)) (by rfl) T.g_check_state T.F_check_state.kp T.b_check_state .nil pass0 (pa_cons (pv 0) (pa_cons (pv 1) pa_nil))))
  (pss_one (ps_ret (pe_op opAddS (peJoin K pe_str (pe_lc (own := [("word", 2), ("part", 3)]) rfl sc_state_text.nd (RZ.pi_zipA (by rfl) T.n_zip (pa_cons (pe_glob (v := .ref T.D_STATE_WORDS) (by rfl) T.g_STATE_WORDS rfl) (pa_cons (pv 1) pa_nil))) (blkOk_by (own := [("word", 2), ("part", 3)]) (N := ["chart", "state", "word", "part"]) (sc := defScope s_state_text) (by decide +kernel)) (fun _ _ _ _ _ => (pgTup K 2 (pgs_cons (pg_name (i := 2) sc_state_text.nd rfl (.inl rfl)) (pgs_cons (pg_name (i := 3) sc_state_text.nd rfl (.inl rfl)) pgs_nil)))) (fun _ _ _ _ _ => pts_nil) (fun _ _ _ _ _ => (peFs (PJ.cons (pe_fmt (pv 2)) (PJ.cons pe_str (PJ.cons (pe_fmt (pv 3)) PJ.nil))))))) pe_str))))), ?_⟩
  rintro ds d ⟨M, s, hM, h, rfl, rfl⟩ -
  have few := sum_few (parts_len hM h)
  have ll := row_len hM h
  have l1 : Str.length " " = 1 := by decide +kernel
  have l2 : Str.length "\n" = 1 := by decide +kernel
  refine .rt (ds_seq (ds_drop (dt_call (da_cons (dt_var rfl) da_nil) ⟨⟨M, rfl⟩, rfl⟩)) ?_)
  refine ds_seq (ds_drop (dt_call (da_cons (dt_var rfl) (da_cons (dt_var rfl) da_nil)) ⟨⟨M, s, rfl, h⟩, rfl⟩)) ?_
  refine ds_ret (dt_addS (x := StD.line s) (dt_join (ys := (stWords.zip (StD.vals s)).map lineOf) dt_str (dt_tl ?_) ?_) dt_str ?_)
  · have zs := di_zipCT (K := K) (ss := [some (.dat (mapD T.C_Map M)), some (.dat (stD s)), none, none]) (mem := []) (m1 := []) (ds := stWords.map D.str) (es := [.int s.p, .int s.i, .int s.w, .int s.l]) (da_cons (dt_gctp (vs := stWords) T.t_STATE_WORDS) (da_cons (dt_var (i := 1) rfl) da_nil)) rfl
    have part : ∀ {x : Str} {v : Int} {ss : Sl}, ss[2]? = some (some (.dat (.str x))) → ss[3]? = some (some (.dat (.int v))) → x ∈ stWords → some v ∈ StD.vals s → DT K (tFs [tFmt (tVar 2), tC (.str " "), tFmt (tVar 3)]) ss [] (.dat (.str (lineOf (x, some v)))) [] := fun {x v ss} e1 e2 hx hv => by
      have lw : ∀ w ∈ stWords, w.length ≤ 4 := by decide +kernel
      have l3 := lw x hx
      have l4 : (toString v : Str).length = 1 := len_vtx (st_dig hM h _ hv)
      obtain ⟨v0, v9⟩ := st_dig hM h _ hv v rfl
      have add : ∀ a b : Str, (a ++ b).length = a.length + b.length := fun a b => by rw [len_tl, tl_append, List.length_append, ← len_tl, ← len_tl]
      have l0 : Str.empty.length = 0 := by decide +kernel
      have z := dt_fs3 (K := K) (ss := ss) (mem := []) (m1 := []) (m2 := []) (m3 := []) (dt_fmtS (dt_var e1) (by omega)) (dt_str (x := " ")) (dt_fmtI (dt_var e2) (Nat.lt_of_le_of_lt (Nat.log2_le_self _) (by omega))) (by rw [add, add, add, l0, l1, l4]; omega) (by rw [add, add, l0, l1]; omega) (by rw [add, l0]; omega)
      rw [fs_eq] at z
      exact z
    refine dt_lcMapT zs (fun i => D.str (((stWords.zip (StD.vals s)).map lineOf).getD i "")) (by decide) fun i hi => ?_
    have hi4 : i < 4 := hi
    match i, hi4 with
    | 0, _ => exact ⟨_, _, dg_tup (dgs_cons dg_name (dgs_cons dg_name dgs_nil)) rfl, by decide, part (x := "at") (v := s.p) rfl rfl (by decide +kernel) (by simp [StD.vals])⟩
    | 1, _ => exact ⟨_, _, dg_tup (dgs_cons dg_name (dgs_cons dg_name dgs_nil)) rfl, by decide, part (x := "ice") (v := s.i) rfl rfl (by decide +kernel) (by simp [StD.vals])⟩
    | 2, _ => exact ⟨_, _, dg_tup (dgs_cons dg_name (dgs_cons dg_name dgs_nil)) rfl, by decide, part (x := "warm") (v := s.w) rfl rfl (by decide +kernel) (by simp [StD.vals])⟩
    | 3, _ => exact ⟨_, _, dg_tup (dgs_cons dg_name (dgs_cons dg_name dgs_nil)) rfl, by decide, part (x := "late") (v := s.l) rfl rfl (by decide +kernel) (by simp [StD.vals])⟩
  · rw [l1]
    show _ + 4 * 1 ≤ _
    have : ((stWords.zip (StD.vals s)).map lineOf).length = 4 := rfl
    omega
  · rw [l2]
    omega
end
end K34
end
section
set_option Elab.async false
set_option linter.all false
set_option maxRecDepth 100000
set_option maxHeartbeats 4000000
namespace K34
open PySem PySem.Spec PyProof.Rows L2 DL TL
/-! ### texts read -/
theorem flat_road (r : Road) : D.flat 2 (roadD r) = true := by simp [roadD, D.flat, D.flatAll]
theorem flat_tupOf {α : Type} {n : Nat} (f : α → D) (l : List α) (h : ∀ x ∈ l, D.flat n (f x) = true) : D.flat (n + 1) (.tup (l.map f)) = true := by
  rw [D.flat]
  exact flatAll_of fun d hd => by
    obtain ⟨x, hx, rfl⟩ := List.mem_map.mp hd
    exact h x hx
theorem flat_opt (v : Option Int) (n : Nat) : D.flat n (optD v) = true := by
  cases v <;> cases n <;> simp [optD, D.flat]
section
variable {K : PySem.W.Frag} {ss : Sl} {mem m1 m2 : List Mc} {ta tb : TE} {d : D}
theorem dt_eqD_same {n : Nat} (ha : DT K ta ss mem (.dat d) m1) (hb : DT K tb ss m1 (.dat d) m2) (hd : D.flat n d = true) (hn : n ≤ 64 := by decide) : DT K (tOp (rEqD K) ta tb) ss mem (.dat (.bl true)) m2 := by
  have h := dt_eqD ha hb hd hd hn
  rw [eqv_self hd] at h
  exact h
end
section
variable {P : Program} {w : World} {K : PySem.W.Frag} {mg : Str → Option Value} {base : Heap} {k : Nat}
def R_map_eq (C : Addr) (ds : List D) (d : D) : Prop := ∃ M, ds = [mapD C M, mapD C M] ∧ d = .bl true
theorem ok_Map___eq__ (T : Txt w K mg) : FnOk P w K mg base CX0 2 T.a_Map___eq__ T.fd_Map___eq__ ["self", "other"] (spP K 2 (R_map_eq T.C_Map)) := by
  refine fnP T.F_Map___eq__ sc_Map___eq__ rfl (fun cdv A outer s H E hr => ?_)
  refine ⟨_, (pss_one (ps_ret (pe_and (pe_callB (callIsi K) (by rfl) T.n_isinstance (by decide +kernel) (pa_cons (pv 1) (pa_cons (pe_glob (v := .ref T.C_Map) (by rfl) T.g_Map rfl) pa_nil))) (pe_and (pe_cmpR op_eq (peFld K (pv 0)) (peFld K (pv 1)) (nomark _)) (pe_and (pe_cmpR (opEqD K hr.units) (peFld K (pv 0)) (peFld K (pv 1)) (nomark _)) (pe_and (pe_cmpR (opEqD K hr.units) (peFld K (pv 0)) (peFld K (pv 1)) (nomark _)) (pe_one (pe_cmpR (opEqD K hr.units) (peFld K (pv 0)) (peFld K (pv 1)) (nomark _))))))))), ?_⟩
  rintro ds d ⟨M, rfl, rfl⟩ -
  let sl : Sl := [some (.dat (mapD T.C_Map M)), some (.dat (mapD T.C_Map M))]
  have e0 := dt_eqI (K := K) (ss := sl) (mem := []) (m1 := []) (m2 := []) (i := M.places) (j := M.places) (dt_fld (dt_var (i := 0) rfl) T.cl T.na_Map__places rfl) (dt_fld (dt_var (i := 1) rfl) T.cl T.na_Map__places rfl)
  rw [decide_eq_true rfl] at e0
  refine .rt (ds_ret (dt_andV_t (b := true) (dt_isiC (dt_var (i := 1) rfl) T.T_Map) (dt_andV_t (m1 := []) (b := true) e0 (dt_andV_t (m1 := []) (b := true) ?_ (dt_andV_t (m1 := []) (b := true) ?_ ?_)))))
  · exact dt_eqD_same (n := 3) (d := .tup (M.roads.map roadD)) (dt_fld (dt_var (i := 0) rfl) T.cl T.na_Map__roads rfl) (dt_fld (dt_var (i := 1) rfl) T.cl T.na_Map__roads rfl) (flat_tupOf roadD M.roads fun r _ => flat_road r)
  · exact dt_eqD_same (n := 2) (d := .tup (M.prices.map optD)) (dt_fld (dt_var (i := 0) rfl) T.cl T.na_Map__prices rfl) (dt_fld (dt_var (i := 1) rfl) T.cl T.na_Map__prices rfl) (flat_tupOf optD M.prices fun v _ => flat_opt v 1)
  · exact dt_eqD_same (n := 2) (d := .tup [.int M.room, .int M.bear]) (dt_fld (dt_var (i := 0) rfl) T.cl T.na_Map__box rfl) (dt_fld (dt_var (i := 1) rfl) T.cl T.na_Map__box rfl) (by simp [D.flat, D.flatAll])
def R_read_map (C : Addr) (ds : List D) (d : D) : Prop := ∃ M : MapD, M.Ok ∧ ds = [.str (MapD.text M)] ∧ d = mapD C M
theorem ok_read_map (T : Txt w K mg) : FnOk P w K mg base CX0 7 T.a_read_map T.fd_read_map ["text"] (spP K 1 (R_read_map T.C_Map)) := by
  refine fnP T.F_read_map sc_read_map rfl (fun cdv A outer s H E hr => ?_)
  refine ⟨_, (pss_cons (ps_asg (pe_call (ok_split_lines T) (hr.mono (by decide)) (by rfl) T.g_split_lines T.F_split_lines.kp T.b_split_lines .nil pass0 (pa_cons (pv 0) pa_nil)) (pgStarL K (pg_name (i := 1) sc_read_map.nd rfl (.inl rfl)) (pg_name (i := 2) sc_read_map.nd rfl (.inl rfl))))
  (pss_cons (ps_set (i := 3) sc_read_map.nd rfl (.inl rfl) (pe_call (ok_values_in T) (hr.mono (by decide)) (by rfl) T.g_values_in T.F_values_in.kp T.b_values_in .nil pass0 (pa_cons (pe_call (ok_line_at T) (hr.mono (by decide)) (by rfl) T.g_line_at T.F_line_at.kp T.b_line_at .nil pass0 (pa_cons (pv 1) (pa_cons pe_int pa_nil))) (pa_cons pe_str pa_nil))))
  (pss_cons (ps_if (PW.pt (pw_or (pt_not (pt_val (pe_call (ok_is_group T) (hr.mono (by decide)) (by rfl) T.g_is_group T.F_is_group.kp T.b_is_group .nil pass0 (pa_cons (pv 3) (pa_cons pe_int pa_nil))))) (pw_or1 (pt_not (pt_val (pe_call (ok_is_between T) (hr.mono (by decide)) (by rfl) T.g_is_between T.F_is_between.kp T.b_is_between .nil pass0 (pa_cons (pe_ix (ixT K) (pv 3) pe_int (fun _ _ => rfl)) (pa_cons pe_int (pa_cons (pe_globI (by rfl) T.k_MOST_PLACES) pa_nil))))))))) (pss_one ps_never) pss_nil)
  (pss_cons (ps_set (i := 4) sc_read_map.nd rfl (.inl rfl) (pe_call (ok_roads_in T) (hr.mono (by decide)) (by rfl) T.g_roads_in T.F_roads_in.kp T.b_roads_in .nil pass0 (pa_cons (pv 1) (pa_cons (pe_ix (ixT K) (pv 3) pe_int (fun _ _ => rfl)) pa_nil))))
  (pss_cons (ps_set (i := 5) sc_read_map.nd rfl (.inl rfl) (pe_op op_add pe_int (pe_callB (callLen K) (by rfl) T.n_len PySem.boot_len (pa_cons (pv 4) pa_nil))))
  (pss_cons (ps_set (i := 6) sc_read_map.nd rfl (.inl rfl) (pe_call (ok_values_in T) (hr.mono (by decide)) (by rfl) T.g_values_in T.F_values_in.kp T.b_values_in .nil pass0 (pa_cons (pe_call (ok_line_at T) (hr.mono (by decide)) (by rfl) T.g_line_at T.F_line_at.kp T.b_line_at .nil pass0 (pa_cons (pv 1) (pa_cons (pv 5) pa_nil))) (pa_cons pe_str pa_nil))))
  (pss_cons (ps_if (PW.pt (pw_or (pt_not (ptTru K (pv 4))) (pw_or1 (pt_not (pt_val (pe_call (ok_are_prices T) (hr.mono (by decide)) (by rfl) T.g_are_prices T.F_are_prices.kp T.b_are_prices .nil pass0 (pa_cons (pe_ix (ixT K) (pv 3) pe_int (fun _ _ => rfl)) (pa_cons (pv 6) pa_nil)))))))) (pss_one ps_never) pss_nil)
  (pss_cons (ps_set (i := 7) sc_read_map.nd rfl (.inl rfl) (pe_call (ok_values_in T) (hr.mono (by decide)) (by rfl) T.g_values_in T.F_values_in.kp T.b_values_in .nil pass0 (pa_cons (pe_call (ok_line_at T) (hr.mono (by decide)) (by rfl) T.g_line_at T.F_line_at.kp T.b_line_at .nil pass0 (pa_cons (pv 1) (pa_cons (pe_op op_add (pv 5) pe_int) pa_nil))) (pa_cons pe_str pa_nil))))
  (pss_cons (ps_if (pt_not (pt_val (pe_call (ok_is_box T) (hr.mono (by decide)) (by rfl) T.g_is_box T.F_is_box.kp T.b_is_box .nil pass0 (pa_cons (pv 7) pa_nil)))) (pss_one ps_never) pss_nil)
  (pss_cons (ps_if (PW.pt (pw_or (pt_cmpR op_gt (pe_callB (callLen K) (by rfl) T.n_len PySem.boot_len (pa_cons (pv 1) pa_nil)) (pe_op op_add (pv 5) pe_int) (nomark _)) (pw_or1 (ptTru K (pv 2))))) (pss_one ps_never) pss_nil)
  (pss_one (ps_ret (pe_make T.mk_Map (ok_Map___init__ T) (hr.mono (by decide)) (by rfl) T.g_Map T.b_Map___init__ .nil pass0 (pa_cons (pe_ix (ixT K) (pv 3) pe_int (fun _ _ => rfl)) (pa_cons (pv 4) (pa_cons (pv 6) (pa_cons (pv 7) pa_nil))))))))))))))))), ?_⟩
  rintro ds d ⟨M, h, rfl, rfl⟩ -
  have p2 := h.p2
  have p5 := h.p5
  have pl := h.pl
  have r1 := h.r1
  have r7 := h.r7
  have rc := rows_count (M := M)
  have tlen := text_len h
  have rl : (M.roads.map roadD).length = M.roads.length := by rw [List.length_map]
  let rows : D := .lst ((MapD.rows M).map .str)
  let row : Int := 1 + ((M.roads.map roadD).length : Int)
  let s2 : Sl := [some (.dat (.str (MapD.text M))), some (.dat rows), some (.dat (.str "")), none, none, none, none, none]
  have parts : DT K (tCall (spP K 1 R_split) [] E0 (tCons (tVar 0) tNil)) [some (.dat (.str (MapD.text M))), none, none, none, none, none, none, none] [] (.dat (.lst ((MapD.rows M).map D.str ++ [.str ""]))) [] := by
    have z := dt_call (K := K) (ss := [some (.dat (.str (MapD.text M))), none, none, none, none, none, none, none]) (mem := []) (m1 := []) (R := R_split) (n := 1) (E := E0) (da_cons (dt_var (i := 0) rfl) da_nil) ⟨MapD.text M, by omega, rfl, rfl⟩
    rw [text_split h, List.map_append] at z
    exact z
  have line : ∀ {ss : Sl} {ti : TE} {i : Int} {x : Str} {vs : List (Option Int)} {y : Str} {o : List D}, ss[1]? = some (some (.dat rows)) → DT K ti ss [] (.dat (.int i)) [] → 0 ≤ i → i < (MapD.rows M).length → (MapD.rows M).getD i.toNat "" = lnS x vs → plain x → (∀ v ∈ vs, Dig v) → x.length ≤ 10 → vs.length ≤ 10 → x = y → vs.map optD = o →
      DT K (tCall (spP K 2 R_values_in) [] E0 (tCons (tCall (spP K 2 R_line_at) [] E0 (tCons (tVar 1) (tCons ti tNil))) (tCons (tC (.str y)) tNil))) ss [] (.dat (.tup o)) [] :=
    fun {ss ti i x vs y o} e hi h0 h1 hg hx hv lx lv exy ho => by
      have z := dt_call (K := K) (ss := ss) (mem := []) (m1 := []) (R := R_line_at) (n := 2) (E := E0) (da_cons (dt_var (i := 1) e) (da_cons hi da_nil)) ⟨MapD.rows M, i, h0, h1, rfl, rfl⟩
      rw [hg] at z
      have q := dt_call (K := K) (ss := ss) (mem := []) (m1 := []) (R := R_values_in) (n := 2) (E := E0) (da_cons z (da_cons (dt_str (x := y)) da_nil)) ⟨x, y, vs, hx, hv, lx, lv, rfl, rfl⟩
      rw [if_pos exy, ho] at q
      exact q
  -- the lines
  refine .rt (ds_seq (ss1 := s2) (m1 := []) (ds_star parts (by rw [List.length_map]; omega)) ?_)
  -- the places
  let s3 : Sl := s2.set 3 (some (.dat (.tup [.int M.places])))
  refine ds_seq (ss1 := s3) (m1 := []) (ds_set (i := 3) (line (i := 0) (x := "places") rfl dt_int (by decide) (by omega) rfl (by decide +kernel) (places_dig h) (by decide +kernel) (by show 1 ≤ 10; decide) rfl rfl)) ?_
  refine ds_guard (m1 := []) (db_or_f (m1 := []) (db_nt (dt_call (da_cons (dt_var (i := 3) rfl) (da_cons dt_int da_nil)) ⟨[.int M.places], 1, rfl, rfl⟩)) (db_nt (dt_call (da_cons (dt_ixT (dt_var (i := 3) rfl) dt_int rfl) (da_cons dt_int (da_cons dt_int da_nil))) ⟨M.places, 2, 5, rfl, bt p2 p5⟩))) ?_
  -- the roads
  let s4 : Sl := s3.set 4 (some (.dat (.tup (M.roads.map roadD))))
  refine ds_seq (ss1 := s4) (m1 := []) (ds_set (i := 4) (dt_call (da_cons (dt_var (i := 1) rfl) (da_cons (dt_ixT (dt_var (i := 3) rfl) dt_int rfl) da_nil)) ⟨M, h, rfl, rfl⟩)) ?_
  let s5 : Sl := s4.set 5 (some (.dat (.int row)))
  refine ds_seq (ss1 := s5) (m1 := []) (ds_set (i := 5) (dt_i0 dt_int (dt_lenT (dt_var (i := 4) rfl)))) ?_
  -- the prices
  let s6 : Sl := s5.set 6 (some (.dat (.tup (M.prices.map optD))))
  have er : row.toNat = M.roads.length + 1 := by show (1 + ((M.roads.map roadD).length : Int)).toNat = _; omega
  have er2 : (row + 1).toNat = M.roads.length + 1 + 1 := by show (1 + ((M.roads.map roadD).length : Int) + 1).toNat = _; omega
  have r0 : 0 ≤ row := by show 0 ≤ 1 + ((M.roads.map roadD).length : Int); omega
  have r2 : row + 1 < (MapD.rows M).length := by show 1 + ((M.roads.map roadD).length : Int) + 1 < _; omega
  refine ds_seq (ss1 := s6) (m1 := []) (ds_set (i := 6) (line (i := row) (x := "prices") rfl (dt_var (i := 5) rfl) r0 (by omega) (by rw [er]; exact row_prices) (by decide +kernel) (prices_dig h) (by decide +kernel) (by omega) rfl rfl)) ?_
  have ne : (M.roads.map roadD).isEmpty = false := by
    cases q : M.roads with
    | nil => rw [q] at r1; exact absurd r1 (by decide)
    | cons _ _ => rfl
  refine ds_guard (m1 := []) (db_or_f (m1 := []) (db_not (b := true) (db_is (db_truT (ds := M.roads.map roadD) (dt_var (i := 4) rfl)) (by rw [ne]; rfl))) (db_nt (dt_call (da_cons (dt_ixT (dt_var (i := 3) rfl) dt_int rfl) (da_cons (dt_var (i := 6) rfl) da_nil)) ⟨⟨M, rfl, h⟩, rfl⟩))) ?_
  -- the box
  let s7 : Sl := s6.set 7 (some (.dat (.tup [.int M.room, .int M.bear])))
  refine ds_seq (ss1 := s7) (m1 := []) (ds_set (i := 7) (line (i := row + 1) (x := "box") rfl (dt_i0 (dt_var (i := 5) rfl) dt_int) (by omega) r2 (by rw [er2]; exact row_box) (by decide +kernel) (box_dig h) (by decide +kernel) (by show 2 ≤ 10; decide) rfl rfl)) ?_
  refine ds_guard (m1 := []) (db_nt (dt_call (da_cons (dt_var (i := 7) rfl) da_nil) ⟨⟨M, rfl, h⟩, rfl⟩)) ?_
  -- no more lines
  refine ds_guard (m1 := []) (db_or_f (m1 := []) (db_is (db_test (dt_i0b (g := fun a b => decide (a > b)) (dt_lenL (dt_var (i := 1) rfl)) (dt_i0 (dt_var (i := 5) rfl) dt_int))) (decide_eq_false ?_)) (dt_ltrueS rfl (dt_var (i := 2) rfl))) ?_
  · rw [List.length_map, rc]
    show ¬ (_ > 1 + ((M.roads.map roadD).length : Int) + 2)
    omega
  exact ds_ret (dt_make (da_cons (dt_ixT (dt_var (i := 3) rfl) dt_int rfl) (da_cons (dt_var (i := 4) rfl) (da_cons (dt_var (i := 6) rfl) (da_cons (dt_var (i := 7) rfl) da_nil)))) ⟨M, h, rfl, rfl, rfl, rfl⟩)
def R_read_state (C : Addr) (ds : List D) (d : D) : Prop := ∃ M s, M.Ok ∧ s.Ok M ∧ ds = [mapD C M, .str (StD.text s)] ∧ d = stD s
theorem ok_read_state (T : Txt w K mg) : FnOk P w K mg base CX0 4 T.a_read_state T.fd_read_state ["chart", "text"] (spP K 2 (R_read_state T.C_Map)) := by
  refine fnP T.F_read_state sc_read_state rfl (fun cdv A outer s H E hr => ?_)
  refine ⟨_, (pss_cons (ps_expr (pe_call (ok_check_map T) (hr.mono (by decide)) (by rfl) T.g_check_map T.F_check_map.kp T.b_check_map .nil pass0 (pa_cons (pv 0) pa_nil)))
  (pss_cons (ps_asg (pe_call (ok_split_lines T) (hr.mono (by decide)) (by rfl) T.g_split_lines T.F_split_lines.kp T.b_split_lines .nil pass0 (pa_cons (pv 1) pa_nil)) (pgStarL K (pg_name (i := 2) sc_read_state.nd rfl (.inl rfl)) (pg_name (i := 3) sc_read_state.nd rfl (.inl rfl))))
  (pss_cons (ps_set (i := 4) sc_read_state.nd rfl (.inl rfl) (peSplit (pe_call (ok_line_at T) (hr.mono (by decide)) (by rfl) T.g_line_at T.F_line_at.kp T.b_line_at .nil pass0 (pa_cons (pv 2) (pa_cons pe_int pa_nil))) pe_str))
  (pss_cons (ps_set (i := 5) sc_read_state.nd rfl (.inl rfl) (pe_tupleOf (by rfl) T.n_tuple (pe_lc (own := [("word", 6)]) rfl sc_read_state.nd (piList K (pe_odd K (pv 4))) (blkOk_by (own := [("word", 6)]) (N := ["chart", "text", "lines", "rest", "words", "state", "word"]) (sc := defScope s_read_state) (by decide +kernel)) (fun _ _ _ _ _ => (pg_name (i := 6) sc_read_state.nd rfl (.inl rfl))) (fun _ _ _ _ _ => pts_nil) (fun _ _ _ _ _ => (pe_call (ok_value_of T) (hr.mono (by decide)) (by rfl) T.g_value_of T.F_value_of.kp T.b_value_of .nil pass0 (pa_cons (pv 6) pa_nil))))))
  (pss_cons (ps_if (PW.pt (pw_or (pt_cmpR (opNeD K hr.units) (pe_tupleOf (by rfl) T.n_tuple (pe_even K (pv 4))) (pe_glob (v := .ref T.D_STATE_WORDS) (by rfl) T.g_STATE_WORDS rfl) (nomark _)) (pw_or1 (pt_not (pt_val (pe_call (ok_is_state T) (hr.mono (by decide)) (by rfl) T.g_is_state T.F_is_state.kp T.b_is_state .nil pass0 (pa_cons (pv 0) (pa_cons (pv 5) pa_nil)))))))) (pss_one ps_never) pss_nil)
  (pss_cons (ps_if (PW.pt (pw_or (pt_cmpR op_gt (pe_callB (callLen K) (by rfl) T.n_len PySem.boot_len (pa_cons (pv 2) pa_nil)) pe_int (nomark _)) (pw_or1 (ptTru K (pv 3))))) (pss_one ps_never) pss_nil)
  (pss_one (ps_ret (pv 5))))))))), ?_⟩
  rintro ds d ⟨M, s, hM, h, rfl, rfl⟩ -
  have slen := st_len hM h
  have llen := row_len hM h
  let s0 : Sl := [some (.dat (mapD T.C_Map M)), some (.dat (.str (StD.text s))), none, none, none, none, none]
  let s3 : Sl := [some (.dat (mapD T.C_Map M)), some (.dat (.str (StD.text s))), some (.dat (.lst [.str (StD.line s)])), some (.dat (.str "")), none, none, none]
  have parts := dt_call (K := K) (ss := s0) (mem := []) (m1 := []) (R := R_split) (n := 1) (E := E0) (da_cons (dt_var (i := 1) rfl) da_nil) ⟨StD.text s, by omega, rfl, rfl⟩
  rw [st_split hM h] at parts
  have first := dt_call (K := K) (ss := s3) (mem := []) (m1 := []) (R := R_line_at) (n := 2) (E := E0) (da_cons (dt_var (i := 2) rfl) (da_cons (dt_int (i := 0)) da_nil)) ⟨[StD.line s], 0, by decide, by show (0 : Int) < ((1 : Nat) : Int); decide, rfl, rfl⟩
  have wds := dt_split (y := " ") first (dt_str (K := K) (ss := s3) (mem := [])) (by decide +kernel) (by show (StD.line s).length ≤ _; omega)
  rw [show ([StD.line s].getD (0 : Int).toNat "" : Str) = StD.line s from rfl, row_split hM h] at wds
  refine .rt (ds_seq (ss1 := s0) (m1 := []) (ds_drop (dt_call (da_cons (dt_var rfl) da_nil) ⟨⟨M, rfl⟩, rfl⟩)) ?_)
  refine ds_seq (ss1 := s3) (m1 := []) (ds_star (ds := [.str (StD.line s)]) (d := .str "") parts (by show 1 ≤ _; decide)) ?_
  let s4 : Sl := s3.set 4 (some (.dat (.lst ((stAll s).map .str))))
  refine ds_seq (ss1 := s4) (m1 := []) (ds_set (i := 4) wds) ?_
  let s5 : Sl := s4.set 5 (some (.dat (stD s)))
  refine ds_seq (ss1 := s5) (m1 := []) (ds_set (i := 5) (dt_tupleL (ds := (StD.vals s).map optD) (dt_tl (dt_lcGT (fun v => D.str (vtx v)) none (StD.vals s) (dt_ev (n := 1) (ds := (stAll s).map .str) (dt_var (i := 4) rfl)) (by show 4 ≤ _; decide) optD fun v hv => ⟨_, _, dg_name, by decide, dt_call (da_cons (dt_var (i := 6) rfl) da_nil) ⟨v, st_dig hM h v hv, rfl, rfl⟩⟩)))) ?_
  refine ds_guard (m1 := []) (db_or_f (m1 := []) (db_is (db_test (dt_neTC (xs := stWords) (ys := stWords) (dt_tupleL (dt_ev (n := 0) (ds := (stAll s).map .str) (dt_var (i := 4) rfl))) (dt_gctp (vs := stWords) T.t_STATE_WORDS) words_shaped words_shaped)) (by rw [words_eqv]; rfl)) (db_nt (dt_call (da_cons (dt_var (i := 0) rfl) (da_cons (dt_var (i := 5) rfl) da_nil)) ⟨⟨M, s, rfl, h⟩, rfl⟩))) ?_
  refine ds_guard (m1 := []) (db_or_f (m1 := []) (db_is (db_test (dt_i0b (g := fun a b => decide (a > b)) (dt_lenL (dt_var (i := 2) rfl)) dt_int)) (decide_eq_false (by show ¬ ((1 : Nat) : Int) > 1; decide))) (dt_ltrueS rfl (dt_var (i := 3) rfl))) ?_
  exact ds_ret (dt_var (i := 5) rfl)
end
end K34
end
section
set_option Elab.async false
set_option linter.all false
set_option maxRecDepth 100000
set_option maxHeartbeats 4000000
namespace K34
open PySem PySem.Spec PyProof.Rows L2 DL TL
/-! ### the law -/
theorem lines_one (r : Str) : linesS [r] = r ++ "\n" := by
  refine ext_tl ?_
  rw [tl_lines, tl_append, tl_nl]
  simp
theorem add_len (a b : Str) : (a ++ b).length = a.length + b.length := by rw [len_tl, tl_append, List.length_append, ← len_tl, ← len_tl]
def topsTo (M : MapD) (i : Nat) : List Str := lnS "places" [some M.places] :: (M.roads.take i).map fun r => lnS "road" (Road.vals r)
theorem topsTo_succ {M : MapD} {i : Nat} (h : i < M.roads.length) : linesS (topsTo M (i + 1)) = linesS (topsTo M i) ++ (lnS "road" (Road.vals (M.road i)) ++ "\n") := by
  have e : topsTo M (i + 1) = topsTo M i ++ [lnS "road" (Road.vals (M.road i))] := by
    unfold topsTo MapD.road
    rw [List.take_add_one, List.getElem?_eq_getElem h, List.getD_eq_getElem?_getD, List.getElem?_eq_getElem h, List.map_append]
    rfl
  rw [e, lines_snoc]
theorem topsTo_all (M : MapD) : topsTo M M.roads.length = MapD.tops M := by
  unfold topsTo MapD.tops
  rw [List.take_of_length_le (Nat.le_refl _)]
theorem tops_len {M : MapD} (h : M.Ok) (i : Nat) : (linesS (topsTo M i)).length ≤ 400 := by
  have r7 := h.r7
  have z := len_lines (rows := topsTo M i) (b := 40) fun r hr => rows_len h r (by
    unfold MapD.rows MapD.tops
    refine List.mem_append_left _ ?_
    unfold topsTo at hr
    rcases List.mem_cons.mp hr with e | hr
    · exact e ▸ List.mem_cons_self
    · obtain ⟨x, hx, rfl⟩ := List.mem_map.mp hr
      exact List.mem_cons_of_mem _ (List.mem_map_of_mem (List.mem_of_mem_take hx)))
  have c : (topsTo M i).length ≤ 8 := by
    unfold topsTo
    rw [List.length_cons, List.length_map, List.length_take]
    omega
  have := Nat.mul_le_mul_right (40 + 1) c
  omega
theorem text_eq (M : MapD) : linesS (topsTo M M.roads.length) ++ (lnS "prices" M.prices ++ "\n") ++ (lnS "box" [some M.room, some M.bear] ++ "\n") = MapD.text M := by
  rw [topsTo_all, ← lines_snoc, ← lines_snoc]
  unfold MapD.text MapD.rows
  rw [List.append_assoc]
  rfl
theorem flat_st (s : StD) : D.flat 2 (stD s) = true := by simp [stD, D.flat, D.flatAll]
def bases : List Int := [1009, 1013, 1000033]
def pool (ns : List Int) : List Int := poolN ns bases bases.length
/-- how many are drawn ahead of turn i -/
def drawn (ns : List Int) : Nat → Nat
  | 0 => 0
  | i + 1 => netEnd (pool ns) (drawn ns i) + 1 + 1 + 1 + 1
section
variable {P : Program} {w : World} {K : PySem.W.Frag} {mg : Str → Option Value} {base : Heap} {k : Nat}
def R_law (ds : List D) (d : D) : Prop := ∃ ns : List Int, ns.length ≤ 63 ∧ Bits ns ∧ ds = [.lst (ns.map .int)] ∧ d = .bl true
theorem ok_law (T : Txt w K mg) : FnOk P w K mg base CX0 8 T.a_law T.fd_law ["_law_script"] (spP K 1 R_law) := by
  refine fnP T.F_law sc_law rfl (fun cdv A outer s H E hr => ?_)
  refine ⟨_, (pss_cons (ps_set (i := 0) sc_law.nd rfl (.inl rfl) (pe_slice (slL K) (pv 0) po_none (po_some pe_int)))
  (pss_cons (ps_set (i := 1) sc_law.nd rfl (.inl rfl) (pe_call (ok__law_pool T) (hr.mono (by decide)) (by rfl) T.g__law_pool T.F__law_pool.kp T.b__law_pool .nil pass0 (pa_cons (pv 0) (pa_cons (pe_tup (pa_cons pe_int (pa_cons pe_int (pa_cons pe_int pa_nil)))) pa_nil))))
  (pss_cons (ps_for PassesOwn.never rfl (pi_range1 (by rfl) T.n_range (pa_cons pe_int pa_nil)) (pg_name (i := 2) sc_law.nd rfl (.inl rfl)) (pss_cons (ps_set (i := 3) sc_law.nd rfl (.inl rfl) (pe_call (ok__law_net T) (hr.mono (by decide)) (by rfl) T.g__law_net T.F__law_net.kp T.b__law_net .nil pass0 (pa_cons (pv 1) (pa_cons pe_int pa_nil))))
  (pss_cons (ps_par (i := 4) (j := 5) (by rfl) sc_law.nd rfl rfl (by decide) rfl rfl (pa_cons (pe_make T.mk_Map (ok_Map___init__ T) (hr.mono (by decide)) (by rfl) T.g_Map T.b_Map___init__ .nil pass0 (pa_cons (pe_ix (ixT K) (pv 3) pe_int (fun _ _ => rfl)) (pa_cons (pe_ix (ixT K) (pv 3) pe_int (fun _ _ => rfl)) (pa_cons (pe_ix (ixT K) (pv 3) pe_int (fun _ _ => rfl)) (pa_cons (pe_ix (ixT K) (pv 3) pe_int (fun _ _ => rfl)) pa_nil))))) (pa_cons (pe_call (ok__law_line T) (hr.mono (by decide)) (by rfl) T.g__law_line T.F__law_line.kp T.b__law_line .nil pass0 (pa_cons pe_str (pa_cons (pe_tup (pa_cons (pe_ix (ixT K) (pv 3) pe_int (fun _ _ => rfl)) pa_nil)) pa_nil))) pa_nil)) (by rfl))
  (pss_cons (ps_for PassesOwn.never rfl (piTup K (pe_ix (ixT K) (pv 3) pe_int (fun _ _ => rfl))) (pg_name (i := 6) sc_law.nd rfl (.inl rfl)) (pss_one (ps_set (i := 5) sc_law.nd rfl (.inl rfl) (pe_op opAddS (pv 5) (pe_call (ok__law_line T) (hr.mono (by decide)) (by rfl) T.g__law_line T.F__law_line.kp T.b__law_line .nil pass0 (pa_cons pe_str (pa_cons (pv 6) pa_nil)))))))
  (pss_cons (ps_set (i := 5) sc_law.nd rfl (.inl rfl) (pe_op opAddS (pe_op opAddS (pv 5) (pe_call (ok__law_line T) (hr.mono (by decide)) (by rfl) T.g__law_line T.F__law_line.kp T.b__law_line .nil pass0 (pa_cons pe_str (pa_cons (pe_ix (ixT K) (pv 3) pe_int (fun _ _ => rfl)) pa_nil)))) (pe_call (ok__law_line T) (hr.mono (by decide)) (by rfl) T.g__law_line T.F__law_line.kp T.b__law_line .nil pass0 (pa_cons pe_str (pa_cons (pe_ix (ixT K) (pv 3) pe_int (fun _ _ => rfl)) pa_nil)))))
  (pss_cons (ps_if (PW.pt (pw_or (pt_cmpR op_ne (pe_call (ok_map_text T) (hr.mono (by decide)) (by rfl) T.g_map_text T.F_map_text.kp T.b_map_text .nil pass0 (pa_cons (pv 4) pa_nil)) (pv 5) (nomark _)) (pw_or1 (pt_not (pt_cmpR (opEqOwn K (ok_Map___eq__ T) T.M_Map___eq__ T.b_Map___eq__ (hr.mono (by decide))) (pe_call (ok_read_map T) (hr.mono (by decide)) (by rfl) T.g_read_map T.F_read_map.kp T.b_read_map .nil pass0 (pa_cons (pv 5) pa_nil)) (pv 4) (nomark _)))))) (pss_one (ps_ret pe_bl)) pss_nil)
  (pss_cons (ps_set (i := 7) sc_law.nd rfl (.inl rfl) (pe_call (ok__law_state T) (hr.mono (by decide)) (by rfl) T.g__law_state T.F__law_state.kp T.b__law_state .nil pass0 (pa_cons (pv 1) (pa_cons (pv 3) pa_nil))))
  (pss_cons (ps_set (i := 8) sc_law.nd rfl (.inl rfl) (pe_op opAddS (peJoin K pe_str (pe_lc (own := [("_law_word", 9), ("_law_one", 10)]) rfl sc_law.nd (piZipLT K (by rfl) T.n_zip (pa_cons (pe_lst (pa_cons pe_str (pa_cons pe_str (pa_cons pe_str (pa_cons pe_str pa_nil))))) (pa_cons (pv 7) pa_nil))) (blkOk_by (own := [("_law_word", 9), ("_law_one", 10)]) (N := ["_law_script", "_law_draws", "_law_turn", "_law_net_here", "_law_chart", "_law_text", "_law_road", "_law_state_here", "_law_more", "_law_word", "_law_one"]) (sc := defScope s_law) (by decide +kernel)) (fun _ _ _ _ _ => (pgTup K 2 (pgs_cons (pg_name (i := 9) sc_law.nd rfl (.inl rfl)) (pgs_cons (pg_name (i := 10) sc_law.nd rfl (.inl rfl)) pgs_nil)))) (fun _ _ _ _ _ => pts_nil) (fun _ _ _ _ _ => (pe_op opAddS (pe_op opAddS (pv 9) pe_str) (pe_callTy callStrI (by rfl) T.n_str (by decide +kernel) (pa_cons (pv 10) pa_nil)))))) pe_str))
  (pss_one (ps_if (PW.pt (pw_or (pt_cmpR op_ne (pe_call (ok_state_text T) (hr.mono (by decide)) (by rfl) T.g_state_text T.F_state_text.kp T.b_state_text .nil pass0 (pa_cons (pv 4) (pa_cons (pv 7) pa_nil))) (pv 8) (nomark _)) (pw_or1 (pt_cmpR (opNeD K hr.units) (pe_call (ok_read_state T) (hr.mono (by decide)) (by rfl) T.g_read_state T.F_read_state.kp T.b_read_state .nil pass0 (pa_cons (pv 4) (pa_cons (pv 8) pa_nil))) (pv 7) (nomark _))))) (pss_one (ps_ret pe_bl)) pss_nil))))))))))
  (pss_one (ps_ret pe_bl))))), ?_⟩
  rintro ds d ⟨ns, hl, hB, rfl, rfl⟩ -
  have ecut : DL.cutD (ns.map D.int) none (some 63) = ns.map D.int := by
    unfold DL.cutD
    rw [HT.sIx_none, show (some (63 : Int)) = some ((63 : Nat) : Int) from rfl, HT.sIx_nat, List.length_map, List.drop_zero, Nat.sub_zero]
    exact List.take_of_length_le (by rw [List.length_map]; omega)
  have scr := dt_slL (K := K) (ss := [some (.dat (.lst (ns.map .int))), none, none, none, none, none, none, none, none, none, none]) (mem := []) (m1 := []) (m2 := []) (m3 := []) (ds := ns.map D.int) (dt_var (i := 0) rfl) do_none (do_some (i := 63) dt_int)
  rw [ecut] at scr
  let pl := pool ns
  let f : Nat → Sl := fun _ => [some (.dat (.lst (ns.map .int))), some (.own 0), none, none, none, none, none, none, none, none, none]
  refine ⟨[drN pl (drawn ns 6)], .inl ?_⟩
  refine ds_seq (ss1 := [some (.dat (.lst (ns.map .int))), none, none, none, none, none, none, none, none, none, none]) (m1 := []) (ds_set (i := 0) scr) ?_
  refine ds_seq (ss1 := f 0) (m1 := [drN pl 0]) (ds_set (i := 1) (dt_callN (m1 := []) (da_cons (dt_var (i := 0) rfl) (da_cons (dt_tup (ds := bases.map .int) (da_cons dt_int (da_cons dt_int (da_cons dt_int da_nil)))) da_nil)) ⟨ns, bases, rfl, hB, by decide, by decide, rfl⟩)) ?_
  refine ds_seq (ss1 := f 6) (m1 := [drN pl (drawn ns 6)]) (ds_forW [2, 3, 4, 5, 6, 7, 8, 9, 10] f (fun i => [drN pl (drawn ns i)]) rfl (di_rng1 (j := 6) (da_cons dt_int da_nil) (by decide) (by decide)) (fun _ => rfl) (fun _ => rfl) fun i hi => ?_) (ds_ret dt_bl)
  have ed : drawn ns (i + 1) = netEnd pl (drawn ns i) + 1 + 1 + 1 + 1 := rfl
  show ∃ s' more, DS K _ _ [drN pl (drawn ns i)] (.nx s' ([drN pl (drawn ns (i + 1))] ++ more)) ∧ wipeS s' _ = _
  rw [ed]
  generalize drawn ns i = c
  have hM : (netOf pl c).Ok := netOf_ok pl c
  have hS : (stN pl (netEnd pl c) (netOf pl c)).Ok (netOf pl c) := stN_ok hM
  generalize eM : netOf pl c = M at hM hS
  generalize en : netEnd pl c = n at hS
  generalize es : stN pl n M = st at hS
  have r7 := hM.r7
  have p5 := hM.p5
  have ppl := hM.pl
  have l1 : Str.length " " = 1 := by decide +kernel
  have l2 : Str.length "\n" = 1 := by decide +kernel
  let m1 : List Mc := [drN pl n]
  let m2 : List Mc := [drN pl (n + 1 + 1 + 1 + 1)]
  let u : Option Vl := some (.dat (.lst (ns.map .int)))
  let o : Option Vl := some (.own 0)
  let vi : Option Vl := some (.dat (.int (0 + (i : Nat))))
  let vn : Option Vl := some (.dat (netD M))
  let vm : Option Vl := some (.dat (mapD T.C_Map M))
  let h2 : Sl := [u, o, vi, none, none, none, none, none, none, none, none]
  let h3 : Sl := [u, o, vi, vn, none, none, none, none, none, none, none]
  let h5 : Nat → Sl := fun j => [u, o, vi, vn, vm, some (.dat (.str (linesS (topsTo M j)))), none, none, none, none, none]
  let h6 : Sl := [u, o, vi, vn, vm, some (.dat (.str (MapD.text M))), none, none, none, none, none]
  let h7 : Sl := [u, o, vi, vn, vm, some (.dat (.str (MapD.text M))), none, some (.dat (stD st)), none, none, none]
  let h8 : Sl := [u, o, vi, vn, vm, some (.dat (.str (MapD.text M))), none, some (.dat (stD st)), some (.dat (.str (StD.text st))), none, none]
  refine ⟨h8, [], ?_, rfl⟩
  show DS K _ h2 [drN pl c] (.nx h8 m2)
  -- the net
  refine ds_seq (ss1 := h3) (m1 := m1) (ds_set (i := 3) (dt_callO (p := 0) (m := drN pl c) (dao_cons (dt_var (i := 1) rfl) (da_cons dt_int da_nil)) rfl (fun z => by cases z) ⟨pl, c, rfl, rfl, by rw [eM], by rw [en]⟩)) ?_
  -- the map, and the first line
  have line : ∀ {ss : Sl} {te : TE} {x : Str} {vs : List (Option Int)}, DT K te ss m1 (.dat (.tup (vs.map optD))) m1 → (∀ v ∈ vs, Dig v) → x.length ≤ 10 → vs.length ≤ 10 →
      DT K (tCall (spP K 2 R_line) [] E0 (tCons (tC (.str x)) (tCons te tNil))) ss m1 (.dat (.str (lnS x vs ++ "\n"))) m1 :=
    fun h hv lx lv => dt_call (da_cons dt_str (da_cons h da_nil)) ⟨_, _, hv, lx, lv, rfl, rfl⟩
  have first : linesS (topsTo M 0) = lnS "places" [some M.places] ++ "\n" := by
    unfold topsTo
    rw [List.take_zero]
    exact lines_one _
  have tp : DT K (tTup (tCons (tOp (rIxT K) (tVar 3) (tC (.int 0))) tNil)) h3 m1 (.dat (.tup [.int M.places])) m1 := dt_tup (da_cons (dt_ixT (dt_var (i := 3) rfl) (dt_int (i := 0)) rfl) da_nil)
  have lp := line (ss := h3) (x := "places") (vs := [some M.places]) tp (places_dig hM) (by decide +kernel) (by show 1 ≤ 10; decide)
  rw [← first] at lp
  refine ds_seq (ss1 := h5 0) (m1 := m1) (ds_parV (dav_cons (dt_make (da_cons (dt_ixT (dt_var (i := 3) rfl) dt_int rfl) (da_cons (dt_ixT (dt_var (i := 3) rfl) dt_int rfl) (da_cons (dt_ixT (dt_var (i := 3) rfl) dt_int rfl) (da_cons (dt_ixT (dt_var (i := 3) rfl) dt_int rfl) da_nil)))) ⟨M, hM, rfl, rfl, rfl, rfl⟩) (dav_cons lp dav_nil))) ?_
  -- the roads
  have walk : DI K (iTup K (tOp (rIxT K) (tVar 3) (tC (.int 1)))) (h5 0) m1 M.roads.length (nthD (M.roads.map roadD)) m1 := by
    have z := di_tup (K := K) (ss := h5 0) (mem := m1) (m1 := m1) (ds := M.roads.map roadD) (dt_ixT (dt_var (i := 3) rfl) (dt_int (i := 1)) rfl)
    rwa [List.length_map] at z
  refine ds_seq (ss1 := h5 M.roads.length) (m1 := m1) (ds_forP [6] h5 rfl walk fun j hj => ?_) ?_
  · have ok := hM.rd (M.road j) (by
      unfold MapD.road
      exact getD_in hj _)
    have ei : nthD (M.roads.map roadD) j = roadD (M.road j) := nth_map roadD hj ⟨0, 0, 0, 0⟩
    have tl1 := tops_len hM j
    have dig := road_dig ok p5
    have ll := len_ln (w := "road") dig
    have l4 : Str.length "road" = 4 := by decide +kernel
    have lv : (Road.vals (M.road j)).length = 4 := rfl
    let g5 : Sl := [u, o, vi, vn, vm, some (.dat (.str (linesS (topsTo M j)))), some (.dat (roadD (M.road j))), none, none, none, none]
    have ad := dt_addS (dt_var (K := K) (ss := g5) (mem := m1) (i := 5) rfl) (line (x := "road") (vs := Road.vals (M.road j)) (dt_var (i := 6) rfl) dig (by decide +kernel) (by rw [lv]; decide)) (by rw [add_len, l2, ll, lv, l4]; omega)
    rw [← topsTo_succ hj] at ad
    refine ⟨[u, o, vi, vn, vm, some (.dat (.str (linesS (topsTo M (j + 1))))), some (.dat (roadD (M.road j))), none, none, none, none], ?_, rfl⟩
    rw [ei]
    exact ds_set (i := 5) ad
  -- prices and box
  have tl2 := tops_len hM M.roads.length
  have lpr := len_ln (w := "prices") (prices_dig hM)
  have lbx := len_ln (w := "box") (box_dig hM)
  have l6 : Str.length "prices" = 6 := by decide +kernel
  have l3 : Str.length "box" = 3 := by decide +kernel
  have two : [some M.room, some M.bear].length = 2 := rfl
  have whole := dt_addS (dt_addS (dt_var (K := K) (ss := h5 M.roads.length) (mem := m1) (i := 5) rfl) (line (x := "prices") (vs := M.prices) (dt_ixT (dt_var (i := 3) rfl) (dt_int (i := 2)) rfl) (prices_dig hM) (by decide +kernel) (by omega)) (by rw [add_len, l2, lpr, l6]; omega)) (line (x := "box") (vs := [some M.room, some M.bear]) (dt_ixT (dt_var (i := 3) rfl) (dt_int (i := 3)) rfl) (box_dig hM) (by decide +kernel) (by rw [two]; decide)) (by rw [add_len, add_len, add_len, l2, lpr, l6, lbx, l3, two]; omega)
  rw [text_eq M] at whole
  refine ds_seq (ss1 := h6) (m1 := m1) (ds_set (i := 5) whole) ?_
  -- written, and read
  have same : ∀ {x : Str}, (!decide (x = x)) = false := fun {x} => by rw [decide_eq_true rfl]; rfl
  refine ds_guard (m1 := m1) (db_or_f (m1 := m1) (db_is (db_test (dt_neS (m1 := m1) (dt_call (da_cons (dt_var (i := 4) rfl) da_nil) ⟨M, hM, rfl, rfl⟩) (dt_var (i := 5) rfl))) same) (db_not (b := true) (db_test (dt_eqOwn (m1 := m1) (C := T.C_Map) (gs := mapFs M) (hs := mapFs M) (dt_call (da_cons (dt_var (i := 5) rfl) da_nil) ⟨M, hM, rfl, rfl⟩) (dt_var (i := 4) rfl) ⟨M, rfl, rfl⟩)))) ?_
  -- the state
  refine ds_seq (ss1 := h7) (m1 := m2) (ds_set (i := 7) (dt_callO (p := 0) (m := drN pl n) (dao_cons (dt_var (i := 1) rfl) (da_cons (dt_var (i := 3) rfl) da_nil)) rfl (fun z => by cases z) ⟨pl, n, M, rfl, rfl, hM, by rw [es], rfl⟩)) ?_
  have few := sum_few (parts_len hM hS)
  have rlen := row_len hM hS
  refine ds_seq (ss1 := h8) (m1 := m2) (ds_set (i := 8) (dt_addS (x := StD.line st) (dt_join (ys := (stWords.zip (StD.vals st)).map lineOf) dt_str (dt_tl ?_) ?_) dt_str ?_)) ?_
  · have zs := di_zipLT (K := K) (ss := h7) (mem := m2) (m1 := m2) (ds := stWords.map D.str) (es := [.int st.p, .int st.i, .int st.w, .int st.l]) (da_cons (dt_lst (da_cons dt_str (da_cons dt_str (da_cons dt_str (da_cons dt_str da_nil))))) (da_cons (dt_var (i := 7) rfl) da_nil)) rfl
    have part : ∀ {x : Str} {v : Int} {ss : Sl}, ss[9]? = some (some (.dat (.str x))) → ss[10]? = some (some (.dat (.int v))) → x ∈ stWords → some v ∈ StD.vals st → DT K (tOp rAddS (tOp rAddS (tVar 9) (tC (.str " "))) (tCB rStrI (tCons (tVar 10) tNil))) ss m2 (.dat (.str (lineOf (x, some v)))) m2 := fun {x v ss} e1 e2 hx hv => by
      have lw : ∀ w ∈ stWords, w.length ≤ 4 := by decide +kernel
      have q3 := lw x hx
      have q4 : (toString v : Str).length = 1 := len_vtx (st_dig hM hS _ hv)
      obtain ⟨v0, v9⟩ := st_dig hM hS _ hv v rfl
      have z := dt_addS (x := x ++ " ") (y := toString v) (dt_addS (dt_var e1) (dt_str (K := K) (mem := m2)) (by rw [l1]; omega)) (dt_strI (dt_var e2) (Nat.lt_of_le_of_lt (Nat.log2_le_self _) (by omega))) (by rw [add_len, l1, q4]; omega)
      exact z
    refine dt_lcMapT zs (fun i => D.str (((stWords.zip (StD.vals st)).map lineOf).getD i "")) (by decide) fun i hi => ?_
    have hi4 : i < 4 := hi
    match i, hi4 with
    | 0, _ => exact ⟨_, _, dg_tup (dgs_cons dg_name (dgs_cons dg_name dgs_nil)) rfl, by decide, part (x := "at") (v := st.p) rfl rfl (by decide +kernel) (by simp [StD.vals])⟩
    | 1, _ => exact ⟨_, _, dg_tup (dgs_cons dg_name (dgs_cons dg_name dgs_nil)) rfl, by decide, part (x := "ice") (v := st.i) rfl rfl (by decide +kernel) (by simp [StD.vals])⟩
    | 2, _ => exact ⟨_, _, dg_tup (dgs_cons dg_name (dgs_cons dg_name dgs_nil)) rfl, by decide, part (x := "warm") (v := st.w) rfl rfl (by decide +kernel) (by simp [StD.vals])⟩
    | 3, _ => exact ⟨_, _, dg_tup (dgs_cons dg_name (dgs_cons dg_name dgs_nil)) rfl, by decide, part (x := "late") (v := st.l) rfl rfl (by decide +kernel) (by simp [StD.vals])⟩
  · rw [l1]
    show _ + 4 * 1 ≤ _
    have : ((stWords.zip (StD.vals st)).map lineOf).length = 4 := rfl
    omega
  · rw [l2]
    omega
  exact ds_if_f (db_or_f (m1 := m2) (db_is (db_test (dt_neS (m1 := m2) (dt_call (da_cons (dt_var (i := 4) rfl) (da_cons (dt_var (i := 7) rfl) da_nil)) ⟨M, st, hM, hS, rfl, rfl⟩) (dt_var (i := 8) rfl))) same) (db_test (dt_neD_same (m1 := m2) (n := 2) (dt_call (da_cons (dt_var (i := 4) rfl) (da_cons (dt_var (i := 8) rfl) da_nil)) ⟨M, st, hM, hS, rfl, rfl⟩) (dt_var (i := 7) rfl) (flat_st st)))) ds_next
end
end K34
end
section
set_option Elab.async false
set_option linter.all false
set_option maxRecDepth 100000
set_option maxHeartbeats 2000000
/-! the head's facts: defs wherever they stand, properties, classes -/
namespace DLz
open PySem PySem.Spec PyProof.Rows L2
/-- a def: where it stands, its names, its statement -/
structure DefX where
  adr : PySem.W.Frag → Addr
  name : Str
  qual : Str
  st : Stmt
/-- as the library's head says it -/
def DefX.toA (d : DefX) : He5.DefA := { at_ := d.adr, name := d.name, qual := d.qual, params := defArgs d.st, body := defBody d.st, scope := defScope d.st }
/-- the getter of the property f of the class x -/
def getAd (x f : Str) (K : PySem.W.Frag) : Addr := match PySem.W.recIn K (He.ma K (He.ga K x) f) "property" with
  | some (.ref g :: _) => g
  | _ => 0
/-- facts that HeadHook1 lacks -/
inductive Fx where
  | fa (f : He.Fa)
  | prop (x f : Str)
  | isi (x : Str)
  | strs (x : Str) (vs : List Str)
/-- the text that a value is -/
def txtOf : Value → Option Str
  | .str x _ => some x
  | _ => none
def Fx.ok (K : PySem.W.Frag) : Fx → Bool
  | .fa f => f.ok K
  | .prop x f => He.eqO (PySem.W.findIn K (.ref (He.ga K x)) f) (some (some (.ref (He.ma K (He.ga K x) f)))) && (He.eqO (PySem.W.specialIn K (.ref (He.ma K (He.ga K x) f)) "__get__") (some (some (.builtin "property.__get__"))) &&
      (decide (PySem.W.takesIn K (.ref (He.ma K (He.ga K x) f)) = some true) && (match PySem.W.recIn K (He.ma K (He.ga K x) f) "property" with
        | some (.ref g :: _) => decide (g = getAd x f K)
        | _ => false)))
  | .isi x => He.eqO (PySem.W.findIn K (.ref (He.ga K x)) "__class__") (some (some (.builtin "object.__class__"))) && (He.eqO (PySem.W.specialIn K (.builtin "object.__class__") "__get__") (some (some (.builtin "getset_descriptor.__get__"))) &&
      (decide (PySem.W.takesIn K (.builtin "object.__class__") = some true) && decide (PySem.W.mroIn K (He.ga K x) (.type "object") = some true)))
  | .strs x vs => He.eqO (PySem.W.nsIn K mainGlobals x) (some (some (.ref (He.ga K x)))) && (match K.lookup (He.ga K x) with
      | some ⟨.type "tuple", _, .seq items _, _⟩ => decide (items.toList.map txtOf = vs.map some) && decide (vs.length ≤ 1000)
      | _ => false)
section
variable {K : PySem.W.Frag}
theorem txts : ∀ {its : List Value} {vs : List Str}, its.map txtOf = vs.map some → L2.Vals (vs.map V.str) its
  | [], [], _ => .nil
  | [], _ :: _, h => by cases h
  | _ :: _, [], h => by cases h
  | i :: its, v :: vs, h => by
    rw [List.map_cons, List.map_cons] at h
    obtain ⟨h1, h2⟩ := List.cons.inj h
    refine .cons ?_ (txts h2)
    cases i <;> first | (cases h1; exact ⟨_, rfl⟩) | cases h1
theorem strs_ok {x : Str} {vs : List Str} (c : Fx.ok K (.strs x vs) = true) : ∀ H : L2.Hp, L2.SqT K H (He.ga K x) (vs.map V.str) := fun H => by
  obtain ⟨-, c⟩ := He.ba c
  split at c
  · rename_i d items n sl e
    obtain ⟨c1, c2⟩ := He.ba c
    have h := of_decide_eq_true c1
    have len : items.size = vs.length := by
      have z := congrArg List.length h
      simpa using z
    have le := of_decide_eq_true c2
    exact .inr ⟨_, items, n, e, rfl, rfl, by rw [sizeLine_eq]; omega, txts h⟩
  · cases c
theorem prop_ok {x f : Str} (c : Fx.ok K (.prop x f) = true) : PropOf K (He.ga K x) f (He.ma K (He.ga K x) f) (getAd x f K) := by
  obtain ⟨c1, c⟩ := He.ba c
  obtain ⟨c2, c⟩ := He.ba c
  obtain ⟨c3, c4⟩ := He.ba c
  refine ⟨He.eqO_ok c1, He.eqO_ok c2, of_decide_eq_true c3, ?_⟩
  split at c4
  · rename_i g rest e
    rw [of_decide_eq_true c4] at e
    exact ⟨_, e⟩
  · cases c4
theorem isi_ok {x : Str} (c0 : (He.Fa.cls x).ok K = true) (c : Fx.ok K (.isi x) = true) : DL.ClsT K (He.ga K x) := by
  obtain ⟨c1, c⟩ := He.ba c
  obtain ⟨c2, c⟩ := He.ba c
  obtain ⟨c3, c4⟩ := He.ba c
  refine ⟨He.cls_ok c0, He.eqO_ok c1, He.eqO_ok c2, of_decide_eq_true c3, of_decide_eq_true c4, ?_⟩
  unfold PySem.W.kitOne
  rw [if_pos (by simp)]
end
/-! the Hook: the library's for the defs, and the facts beside it -/
abbrev Al : Type := He.AlD × Bool
def seen (xs : List Fx) (fn : List DefX) (K : PySem.W.Frag) : Al := (He5.obsA [] (fn.map DefX.toA) K, xs.all (Fx.ok K))
def good (fn : List DefX) : Al := (He5.valA (fn.map DefX.toA), true)
structure Says (xs : List Fx) (fn : List DefX) (K : PySem.W.Frag) : Prop where
  defs : He5.SaysA [] (fn.map DefX.toA) K
  all_ : xs.all (Fx.ok K) = true
def obsG (n : Nat) (xs : List Fx) (fn : List DefX) (g : Addr → Option Obj) : Al := seen xs fn (He.frG g (He.asG g n))
def hook (n : Nat) (xs : List Fx) (fn : List DefX) : PySem.W.Hook where
  α := Al
  obs s := obsG n xs fn s.heap.get?
  val _ := good fn
  says _ h := ∃ K : PySem.W.Frag, K.In h ∧ Says xs fn K
  of _ _ e := ⟨He.frG _ (He.asG _ n), He.frG_in, ⟨congrArg Prod.fst e, congrArg Prod.snd e⟩⟩
  keeps := by
    rintro w h h' ⟨K, inside, said⟩ kept
    exact ⟨K, inside.keeps kept, said⟩
theorem obsG_eq {n : Nat} {xs : List Fx} {fn : List DefX} {g : Addr → Option Obj} {s : Shared} (h : ∀ a, g a = s.heap.get? a) : obsG n xs fn g = (hook n xs fn).obs s :=
  congrArg (obsG n xs fn) (funext h)
section
variable {xs : List Fx} {fn : List DefX} {K : PySem.W.Frag}
theorem Says.fact (c : Says xs fn K) (i : Nat) {f : Fx} (h : xs[i]? = some f := by rfl) : Fx.ok K f = true := List.all_eq_true.mp c.all_ f (List.mem_of_getElem? h)
theorem Says.def_ (c : Says xs fn K) (i : Nat) {d : DefX} (h : fn[i]? = some d := by rfl) : ∃ fd, Fun K d.name d.qual d.st (d.adr K) fd := by
  obtain ⟨fd, F⟩ := c.defs.def_ i (d := d.toA) (by rw [List.getElem?_map, h]; rfl)
  exact ⟨fd, He5.fun_of F⟩
end
/-- how the law's one argument binds -/
theorem binds1 {K : PySem.W.Frag} {x qual : Str} {st : Stmt} {f : Addr} {fd : FuncData} {p : Str} (F : Fun K x qual st f fd)
    (h : ∀ (kV doc pm : Value) (an : Option Addr) (cdv ct : Value) (u : Value), bindArgs (PySem.W.fnOf x qual (defArgs st) (defBody st) (defScope st) .none kV doc pm an cdv ct) ⟨[u], []⟩ = pure [(p, u)]) (s : Shared) (u : Value) : BindsTo s fd ⟨[u], []⟩ [(p, u)] := by
  obtain ⟨_, _, _, _, _, _, _, _, _, made, -, -⟩ := F.ex
  exact made ▸ .of_eq (h ..)
end DLz
namespace DLz
open PySem PySem.Spec PyProof.Rows L2 DL
theorem law_end {K : PySem.W.Frag} {H : Hp} {a : Addr} {ns : List Int} {R : List D → D → Prop} {E : XK} (hS : SqL K H a (ns.map V.int)) (hR : R [.lst (ns.map D.int)] (.bl true)) :
    DL.spP K 1 R [.ref a] H (fun v _ => v = .bl true) E :=
  ⟨H, [], [.dat (.lst (ns.map D.int))], [], .bl true, [], ⟨[.lst (ns.map D.int)], rfl, rfl, rfl, hR⟩, rfl, rfl, pack_slots (Same.refl H) (.cons (.lst hS (RepAll.ofInts ns)) .nil), fun B' H' v _ _ rv => by
    cases rv
    rfl⟩
end DLz
end
section
set_option Elab.async false
set_option linter.all false
set_option maxRecDepth 100000
set_option maxHeartbeats 2000000
/-! the head's facts, with tables of the module's top (texts to whole numbers) -/
namespace DLz
open PySem PySem.Spec PyProof.Rows L2
/-- a table: its name, its keys and what stands behind them -/
abbrev TabX : Type := Str × List (Str × Int)
def entB (K : PySem.W.Frag) (a : Addr) (q : Str × Int) : Bool := match PySem.W.nsIn K a q.1 with
  | some (some (.int i _)) => decide (i = q.2)
  | _ => false
abbrev AlW : Type := Al × (Bool × List (Option (List (Option (Str × Int)))))
def seenW (xs : List Fx) (fn : List DefX) (ts : List TabX) (K : PySem.W.Frag) : AlW := (seen xs fn K, ts.all (fun t => t.2.all (entB K (He.ga K t.1))), ts.map fun t => He.dicW K (He.ga K t.1))
def goodW (fn : List DefX) (ts : List TabX) (w : World) : AlW := (good fn, true, ts.map fun t => some (He.keysIn w.params (t.2.map (·.1))))
structure SaysW (xs : List Fx) (fn : List DefX) (ts : List TabX) (w : World) (K : PySem.W.Frag) : Prop where
  base : Says xs fn K
  ents : ts.all (fun t => t.2.all (entB K (He.ga K t.1))) = true
  tabs : (ts.map fun t => He.dicW K (He.ga K t.1)) = ts.map fun t => some (He.keysIn w.params (t.2.map (·.1)))
def obsW (n : Nat) (xs : List Fx) (fn : List DefX) (ts : List TabX) (g : Addr → Option Obj) : AlW := seenW xs fn ts (He.frG g (He.asG g n))
def hookW (n : Nat) (xs : List Fx) (fn : List DefX) (ts : List TabX) : PySem.W.Hook where
  α := AlW
  obs s := obsW n xs fn ts s.heap.get?
  val w := goodW fn ts w
  says w h := ∃ K : PySem.W.Frag, K.In h ∧ SaysW xs fn ts w K
  of _ _ e := ⟨He.frG _ (He.asG _ n), He.frG_in, ⟨⟨congrArg (fun z : AlW => z.1.1) e, congrArg (fun z : AlW => z.1.2) e⟩, congrArg (fun z : AlW => z.2.1) e, congrArg (fun z : AlW => z.2.2) e⟩⟩
  keeps := by
    rintro w h h' ⟨K, inside, said⟩ kept
    exact ⟨K, inside.keeps kept, said⟩
theorem obsW_eq {n : Nat} {xs : List Fx} {fn : List DefX} {ts : List TabX} {g : Addr → Option Obj} {s : Shared} (h : ∀ a, g a = s.heap.get? a) : obsW n xs fn ts g = (hookW n xs fn ts).obs s :=
  congrArg (obsW n xs fn ts) (funext h)
section
variable {xs : List Fx} {fn : List DefX} {ts : List TabX} {w : World} {K : PySem.W.Frag}
theorem SaysW.tab (c : SaysW xs fn ts w K) (i : Nat) {t : TabX} (h : ts[i]? = some t := by rfl) : ∃ es n, KDict K w (He.ga K t.1) es n := by
  have e := congrArg (fun l => l[i]?) c.tabs
  rw [List.getElem?_map, List.getElem?_map, h] at e
  exact He.dicW_ok (Option.some.inj e)
theorem SaysW.ent (c : SaysW xs fn ts w K) (i : Nat) {t : TabX} (h : ts[i]? = some t := by rfl) : ∀ q ∈ t.2, ∃ u, PySem.W.nsIn K (He.ga K t.1) q.1 = some (some u) ∧ RelV (.int q.2) u := fun q hq => by
  have a := List.all_eq_true.mp c.ents t (List.mem_of_getElem? h)
  have b := List.all_eq_true.mp a q hq
  unfold entB at b
  split at b
  · rename_i v tk e
    rw [of_decide_eq_true b] at e
    exact ⟨_, e, _, rfl⟩
  · cases b
end
end DLz
namespace DLz
open PySem PySem.Spec PyProof.Rows L2
/-- the end, with the sizes of the script's numbers known -/
theorem walk_bits {l : PySem.W.OpenLaw} {most k : Nat} {q : Program} {loose : List Str} {XP : (Str → Option Value) → Heap → Prop} {YP : World → Heap → Prop} {dr : DefRec} {p : Str}
    (isMost : l.most = some most) (few : most ≤ sizeLine) (noDef : dr.params.defaults = []) (room : Room k callerA)
    (law : ∀ (w : World) (mg : Str → Option Value) (f : Addr) (hp : Heap), YP w hp → hp.Ns mainGlobals mg → mg dr.name = some (.ref f) →
      ∃ (K : PySem.W.Frag) (fd : FuncData) (sp : Sp), K.In hp ∧ (∀ (sh : Shared) (v : Value), BindsTo sh fd ⟨[v], []⟩ [(p, v)]) ∧
        (∀ (H : Hp) (ad : Addr) (zs : List Int), zs.length ≤ most → (∀ z ∈ zs, Builtin.Int.intBits z ≤ 1048576) → SqL K H ad (zs.map V.int) → sp [.ref ad] H (fun r _ => r = .bl true) fun _ _ _ => False) ∧
        ∀ hb : Heap, K.In hb → hb.Ns mainGlobals mg → FnOk l.prog w K mg hb CX0 k f fd [p] sp) :
    PySem.W.WalkO q loose XP YP l.row.toRowW dr [] (fun f vs => PySem.call f vs) :=
  Att.attach_callB isMost noDef fun w sa sb mg mb f ob pm cd doc ad vals zs Gr said _ _ _ named lies0 whole short small noGen =>
    match law w mg f _ said Gr.T.g named with
    | ⟨_, _, _, inside, binds, ends, body⟩ =>
      law_call inside Gr.T.g Gr.T.b Gr.T.builtins Gr.T.nolimit noGen lies0 whole (Nat.le_trans short few) room body binds (fun H _ lies => ends H ad zs short small lies) fun _ _ _ never => never
end DLz
end
section
set_option Elab.async false
set_option linter.all false
set_option maxRecDepth 100000
set_option maxHeartbeats 0
namespace K34
open PySem PySem.Spec PyProof.Rows L2 DL DLz
abbrev d_is_whole : DefX := ⟨fun K => He.ga K "is_whole", "is_whole", "is_whole", s_is_whole⟩
abbrev d_is_between : DefX := ⟨fun K => He.ga K "is_between", "is_between", "is_between", s_is_between⟩
abbrev d_is_group : DefX := ⟨fun K => He.ga K "is_group", "is_group", "is_group", s_is_group⟩
abbrev d_Map___init__ : DefX := ⟨fun K => He.ma K (He.ga K "Map") "__init__", "__init__", "Map.__init__", s_Map___init__⟩
abbrev d_Map_places : DefX := ⟨getAd "Map" "places", "places", "Map.places", s_Map_places⟩
abbrev d_Map_roads : DefX := ⟨getAd "Map" "roads", "roads", "Map.roads", s_Map_roads⟩
abbrev d_Map_prices : DefX := ⟨getAd "Map" "prices", "prices", "Map.prices", s_Map_prices⟩
abbrev d_Map_box : DefX := ⟨getAd "Map" "box", "box", "Map.box", s_Map_box⟩
abbrev d_Map___len__ : DefX := ⟨fun K => He.ma K (He.ga K "Map") "__len__", "__len__", "Map.__len__", s_Map___len__⟩
abbrev d_Map___eq__ : DefX := ⟨fun K => He.ma K (He.ga K "Map") "__eq__", "__eq__", "Map.__eq__", s_Map___eq__⟩
abbrev d_are_roads : DefX := ⟨fun K => He.ga K "are_roads", "are_roads", "are_roads", s_are_roads⟩
abbrev d_is_road : DefX := ⟨fun K => He.ga K "is_road", "is_road", "is_road", s_is_road⟩
abbrev d_are_prices : DefX := ⟨fun K => He.ga K "are_prices", "are_prices", "are_prices", s_are_prices⟩
abbrev d_is_box : DefX := ⟨fun K => He.ga K "is_box", "is_box", "is_box", s_is_box⟩
abbrev d_is_state : DefX := ⟨fun K => He.ga K "is_state", "is_state", "is_state", s_is_state⟩
abbrev d_check_map : DefX := ⟨fun K => He.ga K "check_map", "check_map", "check_map", s_check_map⟩
abbrev d_check_state : DefX := ⟨fun K => He.ga K "check_state", "check_state", "check_state", s_check_state⟩
abbrev d_map_text : DefX := ⟨fun K => He.ga K "map_text", "map_text", "map_text", s_map_text⟩
abbrev d_state_text : DefX := ⟨fun K => He.ga K "state_text", "state_text", "state_text", s_state_text⟩
abbrev d_read_map : DefX := ⟨fun K => He.ga K "read_map", "read_map", "read_map", s_read_map⟩
abbrev d_read_state : DefX := ⟨fun K => He.ga K "read_state", "read_state", "read_state", s_read_state⟩
abbrev d_line_of : DefX := ⟨fun K => He.ga K "line_of", "line_of", "line_of", s_line_of⟩
abbrev d_split_lines : DefX := ⟨fun K => He.ga K "split_lines", "split_lines", "split_lines", s_split_lines⟩
abbrev d_line_at : DefX := ⟨fun K => He.ga K "line_at", "line_at", "line_at", s_line_at⟩
abbrev d_values_in : DefX := ⟨fun K => He.ga K "values_in", "values_in", "values_in", s_values_in⟩
abbrev d_value_of : DefX := ⟨fun K => He.ga K "value_of", "value_of", "value_of", s_value_of⟩
abbrev d_roads_in : DefX := ⟨fun K => He.ga K "roads_in", "roads_in", "roads_in", s_roads_in⟩
abbrev d__law_draw : DefX := ⟨fun K => He.ga K "_law_draw", "_law_draw", "_law_draw", s__law_draw⟩
abbrev d__law_cell_at : DefX := ⟨fun K => He.ga K "_law_cell_at", "_law_cell_at", "_law_cell_at", s__law_cell_at⟩
abbrev d__law_digits : DefX := ⟨fun K => He.ga K "_law_digits", "_law_digits", "_law_digits", s__law_digits⟩
abbrev d__law_take : DefX := ⟨fun K => He.ga K "_law_take", "_law_take", "_law_take", s__law_take⟩
abbrev d__law_pool : DefX := ⟨fun K => He.ga K "_law_pool", "_law_pool", "_law_pool", s__law_pool⟩
abbrev d__law_net : DefX := ⟨fun K => He.ga K "_law_net", "_law_net", "_law_net", s__law_net⟩
abbrev d__law_state : DefX := ⟨fun K => He.ga K "_law_state", "_law_state", "_law_state", s__law_state⟩
abbrev d__law_line : DefX := ⟨fun K => He.ga K "_law_line", "_law_line", "_law_line", s__law_line⟩
abbrev d_law : DefX := ⟨fun K => He.ga K "law", "law", "law", s_law⟩
def fnL : List DefX := [d_is_whole, d_is_between, d_is_group, d_Map___init__, d_Map_places, d_Map_roads, d_Map_prices, d_Map_box, d_Map___len__, d_Map___eq__, d_are_roads, d_is_road, d_are_prices, d_is_box, d_is_state, d_check_map, d_check_state, d_map_text, d_state_text, d_read_map, d_read_state, d_line_of, d_split_lines, d_line_at, d_values_in, d_value_of, d_roads_in, d__law_draw, d__law_cell_at, d__law_digits, d__law_take, d__law_pool, d__law_net, d__law_state, d__law_line, d_law]
def faL : List Fx := [.fa (.glo "is_whole"), .fa (.glo "is_between"), .fa (.glo "is_group"), .fa (.glo "are_roads"), .fa (.glo "is_road"), .fa (.glo "are_prices"), .fa (.glo "is_box"), .fa (.glo "is_state"), .fa (.glo "check_map"), .fa (.glo "check_state"), .fa (.glo "map_text"), .fa (.glo "state_text"), .fa (.glo "read_map"), .fa (.glo "read_state"), .fa (.glo "line_of"), .fa (.glo "split_lines"), .fa (.glo "line_at"), .fa (.glo "values_in"), .fa (.glo "value_of"), .fa (.glo "roads_in"), .fa (.glo "_law_draw"), .fa (.glo "_law_cell_at"), .fa (.glo "_law_digits"), .fa (.glo "_law_take"), .fa (.glo "_law_pool"), .fa (.glo "_law_net"), .fa (.glo "_law_state"), .fa (.glo "_law_line"), .fa (.glo "law"), .fa (.glo "Map"), .fa (.cls "Map"), .isi "Map", .fa (.mkr "Map"), .fa (.noat "Map" "_places"), .fa (.noat "Map" "_roads"), .fa (.noat "Map" "_prices"), .fa (.noat "Map" "_box"), .prop "Map" "places", .prop "Map" "roads", .prop "Map" "prices", .prop "Map" "box", .fa (.meth "Map" "__len__"), .fa (.meth "Map" "__eq__"), .fa (.free "len"), .fa (.free "range"), .fa (.free "isinstance"), .fa (.free "all"), .fa (.free "zip"), .fa (.free "enumerate"), .fa (.free "sorted"), .fa (.free "set"), .fa (.free "int"), .fa (.free "bool"), .fa (.free "tuple"), .fa (.free "sum"), .fa (.free "abs"), .fa (.free "str"), .fa (.int "MOST_PLACES" (5)), .fa (.int "MOST_ROADS" (7)), .fa (.int "MOST_HOURS" (4)), .fa (.int "MOST_MELT" (3)), .fa (.int "MOST_PRICE" (9)), .fa (.int "MOST_ROOM" (6)), .fa (.int "MOST_BEAR" (2)), .fa (.int "MOST_LATE" (4)), .fa (.glo "DIGITS"), .fa (.int "NO_VALUE" (-1)), .fa (.glo "STATE_WORDS"), .strs "STATE_WORDS" ["at", "ice", "warm", "late"]]
def taL : List TabX := [("DIGITS", tab_DIGITS)]
theorem txt_of {w : World} {K : PySem.W.Frag} {h : Heap} {mg : Str → Option Value} (X : K.In h) (G : h.Ns mainGlobals mg) (c : SaysW faL fnL taL w K) : Nonempty (Txt w K mg) := by
  obtain ⟨fd_is_whole, F_is_whole⟩ := c.base.def_ 0 (d := d_is_whole) rfl
  obtain ⟨fd_is_between, F_is_between⟩ := c.base.def_ 1 (d := d_is_between) rfl
  obtain ⟨fd_is_group, F_is_group⟩ := c.base.def_ 2 (d := d_is_group) rfl
  obtain ⟨fd_Map___init__, F_Map___init__⟩ := c.base.def_ 3 (d := d_Map___init__) rfl
  obtain ⟨fd_Map_places, F_Map_places⟩ := c.base.def_ 4 (d := d_Map_places) rfl
  obtain ⟨fd_Map_roads, F_Map_roads⟩ := c.base.def_ 5 (d := d_Map_roads) rfl
  obtain ⟨fd_Map_prices, F_Map_prices⟩ := c.base.def_ 6 (d := d_Map_prices) rfl
  obtain ⟨fd_Map_box, F_Map_box⟩ := c.base.def_ 7 (d := d_Map_box) rfl
  obtain ⟨fd_Map___len__, F_Map___len__⟩ := c.base.def_ 8 (d := d_Map___len__) rfl
  obtain ⟨fd_Map___eq__, F_Map___eq__⟩ := c.base.def_ 9 (d := d_Map___eq__) rfl
  obtain ⟨fd_are_roads, F_are_roads⟩ := c.base.def_ 10 (d := d_are_roads) rfl
  obtain ⟨fd_is_road, F_is_road⟩ := c.base.def_ 11 (d := d_is_road) rfl
  obtain ⟨fd_are_prices, F_are_prices⟩ := c.base.def_ 12 (d := d_are_prices) rfl
  obtain ⟨fd_is_box, F_is_box⟩ := c.base.def_ 13 (d := d_is_box) rfl
  obtain ⟨fd_is_state, F_is_state⟩ := c.base.def_ 14 (d := d_is_state) rfl
  obtain ⟨fd_check_map, F_check_map⟩ := c.base.def_ 15 (d := d_check_map) rfl
  obtain ⟨fd_check_state, F_check_state⟩ := c.base.def_ 16 (d := d_check_state) rfl
  obtain ⟨fd_map_text, F_map_text⟩ := c.base.def_ 17 (d := d_map_text) rfl
  obtain ⟨fd_state_text, F_state_text⟩ := c.base.def_ 18 (d := d_state_text) rfl
  obtain ⟨fd_read_map, F_read_map⟩ := c.base.def_ 19 (d := d_read_map) rfl
  obtain ⟨fd_read_state, F_read_state⟩ := c.base.def_ 20 (d := d_read_state) rfl
  obtain ⟨fd_line_of, F_line_of⟩ := c.base.def_ 21 (d := d_line_of) rfl
  obtain ⟨fd_split_lines, F_split_lines⟩ := c.base.def_ 22 (d := d_split_lines) rfl
  obtain ⟨fd_line_at, F_line_at⟩ := c.base.def_ 23 (d := d_line_at) rfl
  obtain ⟨fd_values_in, F_values_in⟩ := c.base.def_ 24 (d := d_values_in) rfl
  obtain ⟨fd_value_of, F_value_of⟩ := c.base.def_ 25 (d := d_value_of) rfl
  obtain ⟨fd_roads_in, F_roads_in⟩ := c.base.def_ 26 (d := d_roads_in) rfl
  obtain ⟨fd__law_draw, F__law_draw⟩ := c.base.def_ 27 (d := d__law_draw) rfl
  obtain ⟨fd__law_cell_at, F__law_cell_at⟩ := c.base.def_ 28 (d := d__law_cell_at) rfl
  obtain ⟨fd__law_digits, F__law_digits⟩ := c.base.def_ 29 (d := d__law_digits) rfl
  obtain ⟨fd__law_take, F__law_take⟩ := c.base.def_ 30 (d := d__law_take) rfl
  obtain ⟨fd__law_pool, F__law_pool⟩ := c.base.def_ 31 (d := d__law_pool) rfl
  obtain ⟨fd__law_net, F__law_net⟩ := c.base.def_ 32 (d := d__law_net) rfl
  obtain ⟨fd__law_state, F__law_state⟩ := c.base.def_ 33 (d := d__law_state) rfl
  obtain ⟨fd__law_line, F__law_line⟩ := c.base.def_ 34 (d := d__law_line) rfl
  obtain ⟨fd_law, F_law⟩ := c.base.def_ 35 (d := d_law) rfl
  obtain ⟨e_DIGITS, n_DIGITS, K_DIGITS⟩ := c.tab 0 (t := ("DIGITS", tab_DIGITS)) rfl
  refine ⟨{
    a_is_whole := d_is_whole.adr K
    fd_is_whole := fd_is_whole
    F_is_whole := F_is_whole
    b_is_whole := F_is_whole.binds (ps := ["value"]) (fun _ _ _ _ _ _ us hl => match us, hl with | [_], _ => rfl)
    g_is_whole := He.glo_ok X G (c.base.fact 0 (f := .fa (.glo "is_whole")) rfl)
    a_is_between := d_is_between.adr K
    fd_is_between := fd_is_between
    F_is_between := F_is_between
    b_is_between := F_is_between.binds (ps := ["value", "low", "high"]) (fun _ _ _ _ _ _ us hl => match us, hl with | [_, _, _], _ => rfl)
    g_is_between := He.glo_ok X G (c.base.fact 1 (f := .fa (.glo "is_between")) rfl)
    a_is_group := d_is_group.adr K
    fd_is_group := fd_is_group
    F_is_group := F_is_group
    b_is_group := F_is_group.binds (ps := ["value", "size"]) (fun _ _ _ _ _ _ us hl => match us, hl with | [_, _], _ => rfl)
    g_is_group := He.glo_ok X G (c.base.fact 2 (f := .fa (.glo "is_group")) rfl)
    a_Map___init__ := d_Map___init__.adr K
    fd_Map___init__ := fd_Map___init__
    F_Map___init__ := F_Map___init__
    b_Map___init__ := F_Map___init__.binds (ps := ["self", "places", "roads", "prices", "box"]) (fun _ _ _ _ _ _ us hl => match us, hl with | [_, _, _, _, _], _ => rfl)
    a_Map_places := d_Map_places.adr K
    fd_Map_places := fd_Map_places
    F_Map_places := F_Map_places
    b_Map_places := F_Map_places.binds (ps := ["self"]) (fun _ _ _ _ _ _ us hl => match us, hl with | [_], _ => rfl)
    a_Map_roads := d_Map_roads.adr K
    fd_Map_roads := fd_Map_roads
    F_Map_roads := F_Map_roads
    b_Map_roads := F_Map_roads.binds (ps := ["self"]) (fun _ _ _ _ _ _ us hl => match us, hl with | [_], _ => rfl)
    a_Map_prices := d_Map_prices.adr K
    fd_Map_prices := fd_Map_prices
    F_Map_prices := F_Map_prices
    b_Map_prices := F_Map_prices.binds (ps := ["self"]) (fun _ _ _ _ _ _ us hl => match us, hl with | [_], _ => rfl)
    a_Map_box := d_Map_box.adr K
    fd_Map_box := fd_Map_box
    F_Map_box := F_Map_box
    b_Map_box := F_Map_box.binds (ps := ["self"]) (fun _ _ _ _ _ _ us hl => match us, hl with | [_], _ => rfl)
    a_Map___len__ := d_Map___len__.adr K
    fd_Map___len__ := fd_Map___len__
    F_Map___len__ := F_Map___len__
    b_Map___len__ := F_Map___len__.binds (ps := ["self"]) (fun _ _ _ _ _ _ us hl => match us, hl with | [_], _ => rfl)
    a_Map___eq__ := d_Map___eq__.adr K
    fd_Map___eq__ := fd_Map___eq__
    F_Map___eq__ := F_Map___eq__
    b_Map___eq__ := F_Map___eq__.binds (ps := ["self", "other"]) (fun _ _ _ _ _ _ us hl => match us, hl with | [_, _], _ => rfl)
    a_are_roads := d_are_roads.adr K
    fd_are_roads := fd_are_roads
    F_are_roads := F_are_roads
    b_are_roads := F_are_roads.binds (ps := ["places", "roads"]) (fun _ _ _ _ _ _ us hl => match us, hl with | [_, _], _ => rfl)
    g_are_roads := He.glo_ok X G (c.base.fact 3 (f := .fa (.glo "are_roads")) rfl)
    a_is_road := d_is_road.adr K
    fd_is_road := fd_is_road
    F_is_road := F_is_road
    b_is_road := F_is_road.binds (ps := ["places", "road"]) (fun _ _ _ _ _ _ us hl => match us, hl with | [_, _], _ => rfl)
    g_is_road := He.glo_ok X G (c.base.fact 4 (f := .fa (.glo "is_road")) rfl)
    a_are_prices := d_are_prices.adr K
    fd_are_prices := fd_are_prices
    F_are_prices := F_are_prices
    b_are_prices := F_are_prices.binds (ps := ["places", "prices"]) (fun _ _ _ _ _ _ us hl => match us, hl with | [_, _], _ => rfl)
    g_are_prices := He.glo_ok X G (c.base.fact 5 (f := .fa (.glo "are_prices")) rfl)
    a_is_box := d_is_box.adr K
    fd_is_box := fd_is_box
    F_is_box := F_is_box
    b_is_box := F_is_box.binds (ps := ["box"]) (fun _ _ _ _ _ _ us hl => match us, hl with | [_], _ => rfl)
    g_is_box := He.glo_ok X G (c.base.fact 6 (f := .fa (.glo "is_box")) rfl)
    a_is_state := d_is_state.adr K
    fd_is_state := fd_is_state
    F_is_state := F_is_state
    b_is_state := F_is_state.binds (ps := ["chart", "state"]) (fun _ _ _ _ _ _ us hl => match us, hl with | [_, _], _ => rfl)
    g_is_state := He.glo_ok X G (c.base.fact 7 (f := .fa (.glo "is_state")) rfl)
    a_check_map := d_check_map.adr K
    fd_check_map := fd_check_map
    F_check_map := F_check_map
    b_check_map := F_check_map.binds (ps := ["chart"]) (fun _ _ _ _ _ _ us hl => match us, hl with | [_], _ => rfl)
    g_check_map := He.glo_ok X G (c.base.fact 8 (f := .fa (.glo "check_map")) rfl)
    a_check_state := d_check_state.adr K
    fd_check_state := fd_check_state
    F_check_state := F_check_state
    b_check_state := F_check_state.binds (ps := ["chart", "state"]) (fun _ _ _ _ _ _ us hl => match us, hl with | [_, _], _ => rfl)
    g_check_state := He.glo_ok X G (c.base.fact 9 (f := .fa (.glo "check_state")) rfl)
    a_map_text := d_map_text.adr K
    fd_map_text := fd_map_text
    F_map_text := F_map_text
    b_map_text := F_map_text.binds (ps := ["chart"]) (fun _ _ _ _ _ _ us hl => match us, hl with | [_], _ => rfl)
    g_map_text := He.glo_ok X G (c.base.fact 10 (f := .fa (.glo "map_text")) rfl)
    a_state_text := d_state_text.adr K
    fd_state_text := fd_state_text
    F_state_text := F_state_text
    b_state_text := F_state_text.binds (ps := ["chart", "state"]) (fun _ _ _ _ _ _ us hl => match us, hl with | [_, _], _ => rfl)
    g_state_text := He.glo_ok X G (c.base.fact 11 (f := .fa (.glo "state_text")) rfl)
    a_read_map := d_read_map.adr K
    fd_read_map := fd_read_map
    F_read_map := F_read_map
    b_read_map := F_read_map.binds (ps := ["text"]) (fun _ _ _ _ _ _ us hl => match us, hl with | [_], _ => rfl)
    g_read_map := He.glo_ok X G (c.base.fact 12 (f := .fa (.glo "read_map")) rfl)
    a_read_state := d_read_state.adr K
    fd_read_state := fd_read_state
    F_read_state := F_read_state
    b_read_state := F_read_state.binds (ps := ["chart", "text"]) (fun _ _ _ _ _ _ us hl => match us, hl with | [_, _], _ => rfl)
    g_read_state := He.glo_ok X G (c.base.fact 13 (f := .fa (.glo "read_state")) rfl)
    a_line_of := d_line_of.adr K
    fd_line_of := fd_line_of
    F_line_of := F_line_of
    b_line_of := F_line_of.binds (ps := ["word", "values"]) (fun _ _ _ _ _ _ us hl => match us, hl with | [_, _], _ => rfl)
    g_line_of := He.glo_ok X G (c.base.fact 14 (f := .fa (.glo "line_of")) rfl)
    a_split_lines := d_split_lines.adr K
    fd_split_lines := fd_split_lines
    F_split_lines := F_split_lines
    b_split_lines := F_split_lines.binds (ps := ["text"]) (fun _ _ _ _ _ _ us hl => match us, hl with | [_], _ => rfl)
    g_split_lines := He.glo_ok X G (c.base.fact 15 (f := .fa (.glo "split_lines")) rfl)
    a_line_at := d_line_at.adr K
    fd_line_at := fd_line_at
    F_line_at := F_line_at
    b_line_at := F_line_at.binds (ps := ["lines", "row"]) (fun _ _ _ _ _ _ us hl => match us, hl with | [_, _], _ => rfl)
    g_line_at := He.glo_ok X G (c.base.fact 16 (f := .fa (.glo "line_at")) rfl)
    a_values_in := d_values_in.adr K
    fd_values_in := fd_values_in
    F_values_in := F_values_in
    b_values_in := F_values_in.binds (ps := ["line", "word"]) (fun _ _ _ _ _ _ us hl => match us, hl with | [_, _], _ => rfl)
    g_values_in := He.glo_ok X G (c.base.fact 17 (f := .fa (.glo "values_in")) rfl)
    a_value_of := d_value_of.adr K
    fd_value_of := fd_value_of
    F_value_of := F_value_of
    b_value_of := F_value_of.binds (ps := ["word"]) (fun _ _ _ _ _ _ us hl => match us, hl with | [_], _ => rfl)
    g_value_of := He.glo_ok X G (c.base.fact 18 (f := .fa (.glo "value_of")) rfl)
    a_roads_in := d_roads_in.adr K
    fd_roads_in := fd_roads_in
    F_roads_in := F_roads_in
    b_roads_in := F_roads_in.binds (ps := ["lines", "places"]) (fun _ _ _ _ _ _ us hl => match us, hl with | [_, _], _ => rfl)
    g_roads_in := He.glo_ok X G (c.base.fact 19 (f := .fa (.glo "roads_in")) rfl)
    a__law_draw := d__law_draw.adr K
    fd__law_draw := fd__law_draw
    F__law_draw := F__law_draw
    b__law_draw := F__law_draw.binds (ps := ["_law_cell", "_law_k", "_law_many"]) (fun _ _ _ _ _ _ us hl => match us, hl with | [_, _, _], _ => rfl)
    g__law_draw := He.glo_ok X G (c.base.fact 20 (f := .fa (.glo "_law_draw")) rfl)
    a__law_cell_at := d__law_cell_at.adr K
    fd__law_cell_at := fd__law_cell_at
    F__law_cell_at := F__law_cell_at
    b__law_cell_at := F__law_cell_at.binds (ps := ["_law_script", "_law_k"]) (fun _ _ _ _ _ _ us hl => match us, hl with | [_, _], _ => rfl)
    g__law_cell_at := He.glo_ok X G (c.base.fact 21 (f := .fa (.glo "_law_cell_at")) rfl)
    a__law_digits := d__law_digits.adr K
    fd__law_digits := fd__law_digits
    F__law_digits := F__law_digits
    b__law_digits := F__law_digits.binds (ps := ["_law_script", "_law_at", "_law_many", "_law_base"]) (fun _ _ _ _ _ _ us hl => match us, hl with | [_, _, _, _], _ => rfl)
    g__law_digits := He.glo_ok X G (c.base.fact 22 (f := .fa (.glo "_law_digits")) rfl)
    a__law_take := d__law_take.adr K
    fd__law_take := fd__law_take
    F__law_take := F__law_take
    b__law_take := F__law_take.binds (ps := ["_law_draws", "_law_many"]) (fun _ _ _ _ _ _ us hl => match us, hl with | [_, _], _ => rfl)
    g__law_take := He.glo_ok X G (c.base.fact 23 (f := .fa (.glo "_law_take")) rfl)
    a__law_pool := d__law_pool.adr K
    fd__law_pool := fd__law_pool
    F__law_pool := F__law_pool
    b__law_pool := F__law_pool.binds (ps := ["_law_script", "_law_bases"]) (fun _ _ _ _ _ _ us hl => match us, hl with | [_, _], _ => rfl)
    g__law_pool := He.glo_ok X G (c.base.fact 24 (f := .fa (.glo "_law_pool")) rfl)
    a__law_net := d__law_net.adr K
    fd__law_net := fd__law_net
    F__law_net := F__law_net
    b__law_net := F__law_net.binds (ps := ["_law_draws", "_law_most"]) (fun _ _ _ _ _ _ us hl => match us, hl with | [_, _], _ => rfl)
    g__law_net := He.glo_ok X G (c.base.fact 25 (f := .fa (.glo "_law_net")) rfl)
    a__law_state := d__law_state.adr K
    fd__law_state := fd__law_state
    F__law_state := F__law_state
    b__law_state := F__law_state.binds (ps := ["_law_draws", "_law_net_here"]) (fun _ _ _ _ _ _ us hl => match us, hl with | [_, _], _ => rfl)
    g__law_state := He.glo_ok X G (c.base.fact 26 (f := .fa (.glo "_law_state")) rfl)
    a__law_line := d__law_line.adr K
    fd__law_line := fd__law_line
    F__law_line := F__law_line
    b__law_line := F__law_line.binds (ps := ["_law_head", "_law_items"]) (fun _ _ _ _ _ _ us hl => match us, hl with | [_, _], _ => rfl)
    g__law_line := He.glo_ok X G (c.base.fact 27 (f := .fa (.glo "_law_line")) rfl)
    a_law := d_law.adr K
    fd_law := fd_law
    F_law := F_law
    b_law := F_law.binds (ps := ["_law_script"]) (fun _ _ _ _ _ _ us hl => match us, hl with | [_], _ => rfl)
    g_law := He.glo_ok X G (c.base.fact 28 (f := .fa (.glo "law")) rfl)
    C_Map := He.ga K "Map"
    g_Map := He.glo_ok X G (c.base.fact 29 (f := .fa (.glo "Map")) rfl)
    T_Map := isi_ok (c.base.fact 30 (f := .fa (.cls "Map")) rfl) (c.base.fact 31 (f := .isi "Map") rfl)
    mk_Map := He.mkr_ok (c.base.fact 32 (f := .fa (.mkr "Map")) rfl)
    na_Map__places := He.noat_ok (c.base.fact 33 (f := .fa (.noat "Map" "_places")) rfl)
    na_Map__roads := He.noat_ok (c.base.fact 34 (f := .fa (.noat "Map" "_roads")) rfl)
    na_Map__prices := He.noat_ok (c.base.fact 35 (f := .fa (.noat "Map" "_prices")) rfl)
    na_Map__box := He.noat_ok (c.base.fact 36 (f := .fa (.noat "Map" "_box")) rfl)
    p_Map_places := He.ma K (He.ga K "Map") "places"
    PO_places := prop_ok (c.base.fact 37 (f := .prop "Map" "places") rfl)
    p_Map_roads := He.ma K (He.ga K "Map") "roads"
    PO_roads := prop_ok (c.base.fact 38 (f := .prop "Map" "roads") rfl)
    p_Map_prices := He.ma K (He.ga K "Map") "prices"
    PO_prices := prop_ok (c.base.fact 39 (f := .prop "Map" "prices") rfl)
    p_Map_box := He.ma K (He.ga K "Map") "box"
    PO_box := prop_ok (c.base.fact 40 (f := .prop "Map" "box") rfl)
    L_Map := He.meth_ok (c.base.fact 41 (f := .fa (.meth "Map" "__len__")) rfl)
    M_Map___eq__ := He.meth_ok (c.base.fact 42 (f := .fa (.meth "Map" "__eq__")) rfl)
    n_len := He.free_ok X G (c.base.fact 43 (f := .fa (.free "len")) rfl)
    n_range := He.free_ok X G (c.base.fact 44 (f := .fa (.free "range")) rfl)
    n_isinstance := He.free_ok X G (c.base.fact 45 (f := .fa (.free "isinstance")) rfl)
    n_all := He.free_ok X G (c.base.fact 46 (f := .fa (.free "all")) rfl)
    n_zip := He.free_ok X G (c.base.fact 47 (f := .fa (.free "zip")) rfl)
    n_enumerate := He.free_ok X G (c.base.fact 48 (f := .fa (.free "enumerate")) rfl)
    n_sorted := He.free_ok X G (c.base.fact 49 (f := .fa (.free "sorted")) rfl)
    n_set := He.free_ok X G (c.base.fact 50 (f := .fa (.free "set")) rfl)
    n_int := He.free_ok X G (c.base.fact 51 (f := .fa (.free "int")) rfl)
    n_bool := He.free_ok X G (c.base.fact 52 (f := .fa (.free "bool")) rfl)
    n_tuple := He.free_ok X G (c.base.fact 53 (f := .fa (.free "tuple")) rfl)
    n_sum := He.free_ok X G (c.base.fact 54 (f := .fa (.free "sum")) rfl)
    n_abs := He.free_ok X G (c.base.fact 55 (f := .fa (.free "abs")) rfl)
    n_str := He.free_ok X G (c.base.fact 56 (f := .fa (.free "str")) rfl)
    k_MOST_PLACES := He.int_ok X G (c.base.fact 57 (f := .fa (.int "MOST_PLACES" (5))) rfl)
    k_MOST_ROADS := He.int_ok X G (c.base.fact 58 (f := .fa (.int "MOST_ROADS" (7))) rfl)
    k_MOST_HOURS := He.int_ok X G (c.base.fact 59 (f := .fa (.int "MOST_HOURS" (4))) rfl)
    k_MOST_MELT := He.int_ok X G (c.base.fact 60 (f := .fa (.int "MOST_MELT" (3))) rfl)
    k_MOST_PRICE := He.int_ok X G (c.base.fact 61 (f := .fa (.int "MOST_PRICE" (9))) rfl)
    k_MOST_ROOM := He.int_ok X G (c.base.fact 62 (f := .fa (.int "MOST_ROOM" (6))) rfl)
    k_MOST_BEAR := He.int_ok X G (c.base.fact 63 (f := .fa (.int "MOST_BEAR" (2))) rfl)
    k_MOST_LATE := He.int_ok X G (c.base.fact 64 (f := .fa (.int "MOST_LATE" (4))) rfl)
    D_DIGITS := He.ga K "DIGITS"
    e_DIGITS := e_DIGITS
    n_DIGITS := n_DIGITS
    g_DIGITS := He.glo_ok X G (c.base.fact 65 (f := .fa (.glo "DIGITS")) rfl)
    K_DIGITS := K_DIGITS
    v_DIGITS := c.ent 0 (t := ("DIGITS", tab_DIGITS)) rfl
    k_NO_VALUE := He.int_ok X G (c.base.fact 66 (f := .fa (.int "NO_VALUE" (-1))) rfl)
    D_STATE_WORDS := He.ga K "STATE_WORDS"
    g_STATE_WORDS := He.glo_ok X G (c.base.fact 67 (f := .fa (.glo "STATE_WORDS")) rfl)
    t_STATE_WORDS := strs_ok (c.base.fact 68 (f := .strs "STATE_WORDS" ["at", "ice", "warm", "late"]) rfl) }⟩
def looseL : List PySem.Str := (["CoolError", "BadMap", "BadState", "BadText", "is_whole", "is_between", "is_group", "MOST_PLACES", "MOST_ROADS", "MOST_HOURS", "MOST_MELT", "MOST_PRICE", "MOST_ROOM", "MOST_BEAR", "MOST_LATE", "Map", "are_roads", "is_road", "are_prices", "is_box", "is_state", "check_map", "check_state", "DIGITS", "NO_VALUE", "STATE_WORDS", "map_text", "state_text", "read_map", "read_state"] : List PySem.Str) ++ (["line_of", "split_lines", "line_at", "values_in", "value_of", "roads_in", "_law_draw", "_law_cell_at", "_law_digits", "_law_take", "_law_pool", "_law_net", "_law_state", "_law_line"] : List PySem.Str)
abbrev R : PySem.W.OpenRow := PySem.W.OpenLaw.row PySem.Challenge.rw_coolway_k34_whole_texts
abbrev hk : PySem.W.Hook := hookW 6 faL fnL taL
def ob (s : PySem.W.SharedT) : AlW := obsW 6 faL fnL taL (HandSHeadRun.getT s)
theorem ob_eq (s : PySem.W.SharedT) : ob s = hk.obs s.abs := obsW_eq (HandSHeadRun.getT_eq s)
theorem run_false (w : World) : HandSHeadRun.RunEq R (PySem.W.view R.prog [49]) hk ob 4000 looseL (w.withFollow "special-get-raises" false) := by
  intro os
  kernel_rfl
theorem run_true (w : World) : HandSHeadRun.RunEq R (PySem.W.view R.prog [49]) hk ob 4000 looseL (w.withFollow "special-get-raises" true) := by
  intro os
  kernel_rfl
theorem run (w : World) : HandSHeadRun.RunEq R (PySem.W.view R.prog [49]) hk ob 4000 looseL w := PySem.W.byRow2 "special-get-raises" (P := fun w => HandSHeadRun.RunEq R (PySem.W.view R.prog [49]) hk ob 4000 looseL w) run_false run_true w
end K34
end
section
set_option Elab.async false
set_option linter.all false

open PySem PySem.W PySem.Calls PyProof.Rows
set_option maxRecDepth 100000 in
set_option maxHeartbeats 0 in
theorem PySem.Challenge.cw_coolway_k34_whole_texts_holds : PySem.Challenge.rw_coolway_k34_whole_texts.Holds := by
  w_on; o_law
  refine HandSHeadRun.head_any (r := OpenLaw.row PySem.Challenge.rw_coolway_k34_whole_texts) (q := view (OpenLaw.row PySem.Challenge.rw_coolway_k34_whole_texts).prog [49]) (H := K34.hk) (ob := K34.ob) (M := 4000) (loose := K34.looseL) (d := HandSHeadRun.topDef (OpenLaw.row PySem.Challenge.rw_coolway_k34_whole_texts).prog 49) (kwd := []) K34.ob_eq
    (by kernel_rfl) (fun s => by kernel_rfl) K34.run (by kernel_rfl) (by kernel_rfl) (by kernel_rfl) (by rfl) (by first | assumption | decide +kernel) (by decide +kernel) ⟨rfl, rfl, rfl, rfl, rfl, by decide +kernel⟩ ?hw ?hc
  case hw => w_witness2
  case hc =>
    refine DLz.walk_bits (l := PySem.Challenge.rw_coolway_k34_whole_texts) (most := 63) (k := 8) (p := "_law_script") rfl (by decide) (by kernel_rfl) ⟨rfl, by decide, by decide⟩ ?F
    intro w mg fa h Y G hmg0
    obtain ⟨K, KX, c⟩ := Y
    have hmg : mg ("law" : PySem.Str) = some (.ref fa) := by
      have e : (HandSHeadRun.topDef (OpenLaw.row PySem.Challenge.rw_coolway_k34_whole_texts).prog 49).name = ("law" : PySem.Str) := by kernel_rfl
      rw [← e]
      exact hmg0
    obtain ⟨T⟩ := K34.txt_of KX G c
    have efa : fa = T.a_law := by
      have z := hmg.symm.trans T.g_law
      cases z
      rfl
    subst efa
    exact ⟨K, T.fd_law, DL.spP K 1 K34.R_law, KX, DLz.binds1 T.F_law (fun _ _ _ _ _ _ _ => rfl), fun H a ns hl hb hS => DLz.law_end hS ⟨ns, hl, hb, rfl, rfl⟩, fun base _ _ => K34.ok_law T⟩
end
