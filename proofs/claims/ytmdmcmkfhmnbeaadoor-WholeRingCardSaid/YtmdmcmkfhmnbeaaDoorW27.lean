/-
  The law WholeRing, walked: for every three texts it answers true.
-/
import Derived.Test.YtmdmcmkfhmnbeaaDoorW29
import Derived.Test.YtmdmcmkfhmnbeaaDoorW30
namespace Go.Proofs.YtmdmcmkfhmnbeaaDoor
open Go.RowKit
/-- Three numbers in their boxes. -/
structure Three (w : World) (b1 b2 b3 : Nat) (u1 u2 u3 : Int) (a1 a2 a3 : Option Addr) (n1 c1 n2 c2 n3 c3 : Nat) (z1 z2 z3 : Int) (W : World) : Prop where
  B : Below w.heap.size w W
  x : Vr W b1 u1 a1 n1 c1 16 z1
  y : Vr W b2 u2 a2 n2 c2 16 z2
  z : Vr W b3 u3 a3 n3 c3 16 z3
theorem Three.keep {w : World} {b1 b2 b3 : Nat} {u1 u2 u3 : Int} {a1 a2 a3 : Option Addr} {n1 c1 n2 c2 n3 c3 : Nat} {z1 z2 z3 : Int} {W W' : World} (h : Three w b1 b2 b3 u1 u2 u3 a1 a2 a3 n1 c1 n2 c2 n3 c3 z1 z2 z3 W) (hb : Below W.heap.size W W') : Three w b1 b2 b3 u1 u2 u3 a1 a2 a3 n1 c1 n2 c2 n3 c3 z1 z2 z3 W' :=
  ⟨below_keep hb h.B, h.x.keep hb, h.y.keep hb, h.z.keep hb⟩
theorem Three.other {w : World} {b1 b2 b3 : Nat} {u1 u2 u3 : Int} {a1 a2 a3 : Option Addr} {n1 c1 n2 c2 n3 c3 : Nat} {z1 z2 z3 : Int} {W : World} (h : Three w b1 b2 b3 u1 u2 u3 a1 a2 a3 n1 c1 n2 c2 n3 c3 z1 z2 z3 W) {q : Nat} (hq : Box W q) (hw : w.heap.size ≤ q) (h1 : b1 < q) (h2 : b2 < q) (h3 : b3 < q) (u : Int) (a : Option Addr) (n c : Nat) : Three w b1 b2 b3 u1 u2 u3 a1 a2 a3 n1 c1 n2 c2 n3 c3 z1 z2 z3 ((W.setCell ⟨q, 0, none⟩ (.int .i64 u)).setCell ⟨q, 1, none⟩ (.slice a n c)) :=
  ⟨below_stored h.B hw _ _, h.x.other hq (by omega) _ _ _ _, h.y.other hq (by omega) _ _ _ _, h.z.other hq (by omega) _ _ _ _⟩

set_option maxRecDepth 4000 in
set_option maxHeartbeats 4000000 in
theorem ring_any (s t u : ByteArray) (w : World) (t1 t2 : TypeId) (p1 p2 : Value) (hs : s.size ≤ maxLen) (ht : t.size ≤ maxLen) (hu : u.size ≤ maxLen) (h1 : w.cell? ⟨0, 0, none⟩ = some (.iface t1 p1)) (h2 : w.cell? ⟨2, 0, none⟩ = some (.iface t2 p2)) (htab : Lib.TabIs Tryd.prog w "internal/strconv.uint64pow10" .u64 Lib.pow10Tab) :
    Calls Tryd.prog 5 #[.string s, .string t, .string u] w fun e w' => e = .returned (.bool true) ∧ Below w.heap.size w w' := by
  have HS := hide hs
  have HT := hide ht
  have HU := hide hu
  have H1 := hide h1
  have H2 := hide h2
  have HTAB := hide htab
  have hit : (⟨(Lib.itoa (-21)).toArray⟩ : ByteArray) = ⟨#[45, 50, 49]⟩ := by kernel_rfl
  clear hs ht hu h1 h2 htab
  go_enter Tryd.func5, Tryd.ntmps5
  go_wp2_with fail
  go_fit (of_any 7 _)
  rintro e W1 ⟨rfl, B1⟩
  have n1 := Vr.new (w := W1) (N := 1) (Zr.near 1 (z := 7) (by decide) (by decide))
  have k1 := below_new W1 (.cells #[.int .i64 7, .slice none 0 0] 28)
  go_wp2_with fail
  go_fit (of_any (-3) _)
  rintro e W2 ⟨rfl, hb2⟩
  have B2 := below_keep hb2 (below_keep k1 B1)
  have one := n1.keep hb2
  have o0 := one.c0
  have o1 := one.c1
  have ol := one.lt
  have n2 := Vr.new (w := W2) (N := 1) (Zr.near 1 (z := -3) (by decide) (by decide))
  have k2 := below_new W2 (.cells #[.int .i64 (-3), .slice none 0 0] 28)
  clear n1 k1 hb2 B1
  go_wp2_with fail
  go_fit (mul_any (N := 0) _ (one.keep k2).zr n2.zr (by omega))
  rintro e W3 ⟨⟨v3, rfl, hZ3⟩, hb3⟩
  have hZ3' := hZ3.eq (show (7 : Int) * -3 = -21 by decide)
  have hv3 := hZ3'.small (by decide) (by decide)
  subst hv3
  have B3 := below_keep hb3 (below_keep k2 B2)
  have k3 := below_new W3 (.cells #[.int .i64 (-21), .slice none 0 0] 28)
  clear hZ3 hZ3' hb3 B2 k2 n2 one o0 o1 ol
  go_wp2_with fail
  go_fit (text_near (-21) (by decide) (by decide) _ (tab_later (unhide HTAB) (below_keep k3 B3)))
  rintro e W4 ⟨rfl, hb4⟩
  rw [hit]
  have B4 := below_keep hb4 (below_keep k3 B3)
  clear hit hb4 k3 B3
  go_wp2_with fail
  go_fit (read_two s _ t1 t2 p1 p2 (unhide HS) (cell_keep B4 (unhide H1)) (cell_keep B4 (unhide H2)))
  rintro e W5 ⟨⟨u5, a5, n5, c5, er5, z5, rfl, hZ5, hE5⟩, hb5⟩
  have B5 := below_keep hb5 B4
  have HE5 := hide hE5
  have nx := Vr.new hZ5
  have kx := below_new W5 (.cells #[.int .i64 u5, .slice a5 n5 c5] 28)
  have Bx := below_keep kx B5
  clear hE5 hb5 B4
  go_wp2_with fail
  go_fit (read_two t _ t1 t2 p1 p2 (unhide HT) (cell_keep Bx (unhide H1)) (cell_keep Bx (unhide H2)))
  rintro e W6 ⟨⟨u6, a6, n6, c6, er6, z6, rfl, hZ6, hE6⟩, hb6⟩
  have B6 := below_keep hb6 Bx
  have HE6 := hide hE6
  have hx := nx.keep hb6
  have ny := Vr.new hZ6
  have ky := below_new W6 (.cells #[.int .i64 u6, .slice a6 n6 c6] 28)
  have By := below_keep ky B6
  clear hE6 hb6 nx kx Bx hZ5
  go_wp2_with fail
  go_fit (read_two u _ t1 t2 p1 p2 (unhide HU) (cell_keep By (unhide H1)) (cell_keep By (unhide H2)))
  rintro e W7 ⟨⟨u7, a7, n7, c7, er7, z7, rfl, hZ7, hE7⟩, hb7⟩
  have B7 := below_keep hb7 By
  have hx := (hx.keep ky).keep hb7
  have hy := ny.keep hb7
  have nz := Vr.new hZ7
  have kz := below_new W7 (.cells #[.int .i64 u7, .slice a7 n7 c7] 28)
  have x0 := hx.c0
  have x1 := hx.c1
  have xl := hx.lt
  have y0 := hy.c0
  have y1 := hy.c1
  have yl := hy.lt
  clear hb7 ny ky By hZ6
  rcases unhide HE5 with ⟨rfl, hs5⟩ | ⟨q5, rfl⟩
  · rcases unhide HE6 with ⟨rfl, hs6⟩ | ⟨q6, rfl⟩
    · rcases hE7 with ⟨rfl, hs7⟩ | ⟨q7, rfl⟩
      · have l5 : ¬ (400 : Int) < s.size := by omega
        have l6 : ¬ (400 : Int) < t.size := by omega
        have l7 : ¬ (400 : Int) < u.size := by omega
        clear HE5 HE6 hs5 hs6 hs7
        go_wp2_with fail
        go_fit (add_any (N := 15) _ (hx.keep kz).zr (hy.keep kz).zr (by omega))
        rintro e W8 ⟨⟨v8, rfl, hZ8⟩, hb8⟩
        obtain ⟨u8, a8, n8, c8, hv8⟩ := hZ8.shape
        subst hv8
        have h3 : Three w W5.heap.size W6.heap.size W7.heap.size u5 u6 u7 a5 a6 a7 n5 c5 n6 c6 n7 c7 z5 z6 z7 W8 := ⟨below_keep hb8 (below_keep kz B7), (hx.keep kz).keep hb8, (hy.keep kz).keep hb8, nz.keep hb8⟩
        have na := Vr.new hZ8
        have ka := below_new W8 (.cells #[.int .i64 u8, .slice a8 n8 c8] 28)
        clear hb8 kz B7 hx hy nz x0 x1 xl y0 y1 yl B5 B6
        have x0 := h3.z.c0
        have x1 := h3.z.c1
        have xl := h3.x.lt
        have yl := h3.y.lt
        have zl := h3.z.lt
        go_wp2_with fail
        go_fit (mul_any (N := 16) _ na.zr ((h3.z.keep ka).zr.mono (by omega)) (by omega))
        rintro e W9 ⟨⟨v9, rfl, hZ9⟩, hb9⟩
        obtain ⟨u9, a9, n9, c9, hv9⟩ := hZ9.shape
        subst hv9
        have h9 := (h3.keep ka).keep hb9
        have va := na.keep hb9
        have wl := h3.B.size
        clear ka na hb9 hZ8 h3 x0 x1
        have x0 := h9.x.c0
        have x1 := h9.x.c1
        have z0 := h9.z.c0
        have z1 := h9.z.c1
        have g0 := va.c0
        have g1 := va.c1
        have gf := va.frozen
        have gl := va.lt
        have va' := va.store hZ9
        have h9' := h9.other va.box wl xl yl zl u9 a9 n9 c9
        go_wp2_with fail
        go_fit (mul_any (N := 15) _ h9'.x.zr h9'.z.zr (by omega))
        rintro e W10 ⟨⟨v10, rfl, hZ10⟩, hb10⟩
        obtain ⟨u10, a10, n10, c10, hv10⟩ := hZ10.shape
        subst hv10
        have h10 := h9'.keep hb10
        have va10 := va'.keep hb10
        have nb := Vr.new hZ10
        have kb := below_new W10 (.cells #[.int .i64 u10, .slice a10 n10 c10] 28)
        clear x0 x1 z0 z1 g0 g1 gf gl va va' h9 h9' hZ9 hb10 xl yl zl wl
        have y0 := h10.y.c0
        have y1 := h10.y.c1
        have z0 := h10.z.c0
        have z1 := h10.z.c1
        have xl := h10.x.lt
        have yl := h10.y.lt
        have zl := h10.z.lt
        have al := va10.lt
        have wl := h10.B.size
        go_wp2_with fail
        go_fit (mul_any (N := 15) _ (h10.y.keep kb).zr (h10.z.keep kb).zr (by omega))
        rintro e W11 ⟨⟨v11, rfl, hZ11⟩, hb11⟩
        obtain ⟨u11, a11, n11, c11, hv11⟩ := hZ11.shape
        subst hv11
        have h11 := (h10.keep kb).keep hb11
        have va11 := (va10.keep kb).keep hb11
        have vb11 := nb.keep hb11
        have nc := Vr.new hZ11
        have kc := below_new W11 (.cells #[.int .i64 u11, .slice a11 n11 c11] 28)
        clear y0 y1 z0 z1 hb11 nb kb h10 va10 hZ10
        have b0 := vb11.c0
        have b1 := vb11.c1
        have bl := vb11.lt
        go_wp2_with fail
        go_fit (add_any (N := 31) _ (vb11.keep kc).zr nc.zr (by omega))
        rintro e W12 ⟨⟨v12, rfl, hZ12⟩, hb12⟩
        obtain ⟨u12, a12, n12, c12, hv12⟩ := hZ12.shape
        subst hv12
        have h12 := (h11.keep kc).keep hb12
        have va12 := (va11.keep kc).keep hb12
        have vb12 := (vb11.keep kc).keep hb12
        clear b0 b1 bl hb12 nc kc h11 va11 vb11 hZ11
        have vb12' := vb12.store hZ12
        have va12' := va12.other vb12.box (by omega) u12 a12 n12 c12
        have h12' := h12.other vb12.box wl xl yl zl u12 a12 n12 c12
        have a0 := va12.c0
        have a1 := va12.c1
        have g0 := vb12.c0
        have g1 := vb12.c1
        have gf := vb12.frozen
        have gl := vb12.lt
        go_wp2_with fail
        go_fit (cmp_any (N := 33) _ va12'.zr (vb12'.zr.mono (by omega)) (by omega))
        rintro e W13 ⟨rfl, hb13⟩
        rw [show sgn ((z5 + z6) * z7 - (z5 * z7 + z6 * z7)) = 0 by rw [Int.add_mul, Int.sub_self]; rfl]
        have h13 := h12'.keep hb13
        clear hb13 h12' va12' vb12' a0 a1 g0 g1 gf gl h12 va12 vb12 hZ12 xl yl zl al wl
        have x0 := h13.x.c0
        have x1 := h13.x.c1
        have y0 := h13.y.c0
        have y1 := h13.y.c1
        go_wp2_with fail
        go_fit (sub_any (N := 15) _ h13.x.zr h13.y.zr (by omega))
        rintro e W14 ⟨⟨v14, rfl, hZ14⟩, hb14⟩
        obtain ⟨u14, a14, n14, c14, hv14⟩ := hZ14.shape
        subst hv14
        have h14 := h13.keep hb14
        have nd := Vr.new hZ14
        have kd := below_new W14 (.cells #[.int .i64 u14, .slice a14 n14 c14] 28)
        clear x0 x1 y0 y1 h13 hb14
        have y0 := h14.y.c0
        have y1 := h14.y.c1
        have xl := h14.x.lt
        have yl := h14.y.lt
        have zl := h14.z.lt
        have wl := h14.B.size
        go_wp2_with fail
        go_fit (add_any (N := 16) _ nd.zr ((h14.y.keep kd).zr.mono (by omega)) (by omega))
        rintro e W15 ⟨⟨v15, rfl, hZ15⟩, hb15⟩
        obtain ⟨u15, a15, n15, c15, hv15⟩ := hZ15.shape
        subst hv15
        have h15 := (h14.keep kd).keep hb15
        have vd := nd.keep hb15
        clear y0 y1 h14 nd kd hb15 hZ14
        have vd' := vd.store hZ15
        have h15' := h15.other vd.box wl xl yl zl u15 a15 n15 c15
        have x0 := h15.x.c0
        have x1 := h15.x.c1
        have g0 := vd.c0
        have g1 := vd.c1
        have gf := vd.frozen
        have gl := vd.lt
        go_wp2_with fail
        go_fit (cmp_any (N := 17) _ vd'.zr (h15'.x.zr.mono (by omega)) (by omega))
        rintro e W16 ⟨rfl, hb16⟩
        rw [show sgn (z5 - z6 + z6 - z5) = 0 by rw [show z5 - z6 + z6 - z5 = 0 by omega]; rfl]
        have h16 := h15'.keep hb16
        clear hb16 h15' vd' x0 x1 g0 g1 gf gl h15 vd hZ15 xl yl zl wl
        have x0 := h16.x.c0
        have x1 := h16.x.c1
        have y0 := h16.y.c0
        have y1 := h16.y.c1
        go_wp2_with fail
        go_fit (divMod_any (N := 15) _ h16.x.zr h16.y.zr (by omega))
        rintro e W17 ⟨⟨hz6, rfl⟩ | ⟨hne, vq, vr, q, r, rfl, hQ, hR, hqr, hr0, hr1⟩, hb17⟩
        · have h17 := h16.keep hb17
          have hs6 : sgn u6 = 0 := by
            obtain ⟨x', a', n', c', hvv, hsg, _⟩ := h17.y.zr.sgn
            obtain ⟨rfl, _⟩ : u6 = x' ∧ _ := by simpa using hvv
            rw [hsg, hz6]; rfl
          have HS6 := hide hs6
          clear hs6 hz6 hb17 h16 x0 x1 y0 y1
          have y0 := h17.y.c0
          have y1 := h17.y.c1
          have yl := h17.y.lt
          go_wp2_with fail
          go_fit (sign_any u6 _ _)
          rintro e W18 ⟨rfl, hb18⟩
          rw [unhide HS6]
          go_wp2
          go_ret
          exact ⟨rfl, below_keep hb18 (below_keep (below_new _ _) (below_keep (below_new _ _) h17.B))⟩
        · obtain ⟨u17, a17, n17, c17, hv17⟩ := hQ.shape
          subst hv17
          obtain ⟨u18, a18, n18, c18, hv18⟩ := hR.shape
          subst hv18
          have h17 := h16.keep hb17
          have HQR := hide hqr
          have HR0 := hide hr0
          have HR1 := hide hr1
          have HNE := hide hne
          clear hqr hr0 hr1 hne hb17 h16 x0 x1 y0 y1
          have y0 := h17.y.c0
          have y1 := h17.y.c1
          have yl := h17.y.lt
          have xl := h17.x.lt
          have zl := h17.z.lt
          have wl := h17.B.size
          have kq := below_new W17 (.cells #[.int .i64 u17, .slice a17 n17 c17] 28)
          have nq := Vr.new hQ
          have nr := Vr.new (hR.later kq)
          have kr := below_new (W17.alloc (.cells #[.int .i64 u17, .slice a17 n17 c17] 28)) (.cells #[.int .i64 u18, .slice a18 n18 c18] 28)
          rw [show (W17.alloc (.cells #[.int .i64 u17, .slice a17 n17 c17] 28)).heap.size = W17.heap.size + 1 by simp] at nr
          go_wp2_with fail
          go_fit (mul_any (N := 17) _ (nq.keep kr).zr (((h17.y.keep kq).keep kr).zr.mono (by omega)) (by omega))
          rintro e W18 ⟨⟨v19, rfl, hZ19⟩, hb18⟩
          obtain ⟨u19, a19, n19, c19, hv19⟩ := hZ19.shape
          subst hv19
          have h18 := ((h17.keep kq).keep kr).keep hb18
          have vq18 := (nq.keep kr).keep hb18
          have vr18 := nr.keep hb18
          clear kq kr nq nr hb18 h17 hQ hR y0 y1
          have vq18' := vq18.store hZ19
          have vr18' := vr18.other vq18.box (by omega) u19 a19 n19 c19
          have h18' := h18.other vq18.box wl xl yl zl u19 a19 n19 c19
          have g0 := vq18.c0
          have g1 := vq18.c1
          have gf := vq18.frozen
          have gl := vq18.lt
          have r0 := vr18.c0
          have r1 := vr18.c1
          have rl := vr18.lt
          go_wp2_with fail
          go_fit (add_any (N := 35) _ vq18'.zr (vr18'.zr.mono (by omega)) (by omega))
          rintro e W19 ⟨⟨v20, rfl, hZ20⟩, hb19⟩
          obtain ⟨u20, a20, n20, c20, hv20⟩ := hZ20.shape
          subst hv20
          have h19 := h18'.keep hb19
          have vq19 := vq18'.keep hb19
          have vr19 := vr18'.keep hb19
          clear hb19 g0 g1 gf gl r0 r1 rl vq18 vr18 h18 vq18' vr18' h18' hZ19
          have vq19' := vq19.store hZ20
          have vr19' := vr19.other vq19.box (by omega) u20 a20 n20 c20
          have h19' := h19.other vq19.box wl xl yl zl u20 a20 n20 c20
          have g0 := vq19.c0
          have g1 := vq19.c1
          have gf := vq19.frozen
          have gl := vq19.lt
          have y0 := h19.y.c0
          have y1 := h19.y.c1
          have ylt := h19.y.lt
          go_wp2_with fail
          go_fit (sign_any u6 _ _)
          rintro e W20 ⟨rfl, hb20⟩
          have hsz : ((W19.setCell ⟨W17.heap.size, 0, none⟩ (.int .i64 u20)).setCell ⟨W17.heap.size, 1, none⟩ (.slice a20 n20 c20)).heap.size = W19.heap.size := by simp [World.setCell]
          have ns := Vr.new h19'.y.zr
          have ks := below_new ((W19.setCell ⟨W17.heap.size, 0, none⟩ (.int .i64 u20)).setCell ⟨W17.heap.size, 1, none⟩ (.slice a20 n20 c20)) (.cells #[.int .i64 u6, .slice a6 n6 c6] 28)
          rw [hsz] at ns
          have h20 := (h19'.keep ks).keep hb20
          have vq20 := (vq19'.keep ks).keep hb20
          have vr20 := (vr19'.keep ks).keep hb20
          have vs20 := ns.keep hb20
          have xl' := h19.x.lt
          have zl' := h19.z.lt
          have wl' := h19.B.size
          have rl' := vr19.lt
          have HSY : Hid (sgn u6 = sgn z6) := by
            obtain ⟨x', a', n', c', hvv, hsg, _⟩ := h20.y.zr.sgn
            obtain ⟨rfl, _⟩ : u6 = x' ∧ _ := by simpa using hvv
            exact hsg
          have hsr : (0 : Int) ≤ sgn u18 := by
            obtain ⟨x', a', n', c', hvv, hsg, _⟩ := vr20.zr.sgn
            obtain ⟨rfl, _⟩ : u18 = x' ∧ _ := by simpa using hvv
            rw [hsg]
            have := unhide HR0
            rcases sgn_val r with ⟨a, b, c⟩ | ⟨a, b, c⟩ | ⟨a, b, c⟩ <;> omega
          have HD : Hid (sgn (q * z6 + r - z5) = 0) := by
            show _ = _
            rw [show q * z6 + r = z5 from unhide HQR, Int.sub_self]; rfl
          clear hb20 hsz ns ks h19' vq19' vr19' g0 g1 gf y0 y1 h19 vq19 vr19 hZ20
          by_cases hneg : z6 < 0
          · rw [show sgn u6 = -1 by rw [unhide HSY]; exact sgn_neg hneg]
            have HN := hide hneg
            clear hneg
            have y0 := h20.y.c0
            have y1 := h20.y.c1
            go_wp2_with fail
            go_fit (neg_any (N := 15) _ h20.y.zr)
            rintro e W21 ⟨⟨v21, rfl, hZ21⟩, hb21⟩
            obtain ⟨u21, a21, n21, c21, hv21⟩ := hZ21.shape
            subst hv21
            have h21 := h20.keep hb21
            have vq21 := vq20.keep hb21
            have vr21 := vr20.keep hb21
            have vs21 := vs20.keep hb21
            clear hb21 h20 vq20 vr20 vs20 y0 y1
            have vs' := vs21.store hZ21
            have vq' := vq21.other vs21.box (by omega) u21 a21 n21 c21
            have vr' := vr21.other vs21.box (by omega) u21 a21 n21 c21
            have h21' := h21.other vs21.box wl' xl' ylt zl' u21 a21 n21 c21
            have g0 := vs21.c0
            have g1 := vs21.c1
            have gf := vs21.frozen
            have q0 := vq21.c0
            have q1 := vq21.c1
            have x0 := h21.x.c0
            have x1 := h21.x.c1
            go_wp2_with fail
            go_fit (cmp_any (N := 36) _ vq'.zr (h21'.x.zr.mono (by omega)) (by omega))
            rintro e W22 ⟨rfl, hb22⟩
            rw [unhide HD]
            have h22 := h21'.keep hb22
            have vr22 := vr'.keep hb22
            have vs22 := vs'.keep hb22
            clear hb22 h21 vq21 vr21 vs21 vs' vq' vr' h21' g0 g1 gf q0 q1 x0 x1 hZ21
            have r0 := vr22.c0
            have r1 := vr22.c1
            go_wp2_with fail
            go_fit (sign_any u18 _ _)
            rintro e W23 ⟨rfl, hb23⟩
            have h23 := h22.keep hb23
            have vr23 := vr22.keep hb23
            have vs23 := vs22.keep hb23
            clear hb23 h22 vr22 vs22 r0 r1
            have r0 := vr23.c0
            have r1 := vr23.c1
            have s0 := vs23.c0
            have s1 := vs23.c1
            go_wp2_with fail
            go_fit (cmp_any (N := 17) _ vr23.zr (vs23.zr.mono (by omega)) (by omega))
            rintro e W24 ⟨rfl, hb24⟩
            rw [show sgn (r - -z6) = -1 by apply sgn_neg; have h1 := unhide HR1; have h2 : z6 < 0 := unhide HN; unfold iabs at h1; rw [if_pos h2] at h1; omega]
            go_wp2
            go_ret
            exact ⟨rfl, below_keep hb24 h23.B⟩
          · have hpos : 0 < z6 := by have := unhide HNE; omega
            rw [show sgn u6 = 1 by rw [unhide HSY]; exact sgn_pos hpos]
            have HN := hide hpos
            clear hneg hpos
            have q0 := vq20.c0
            have q1 := vq20.c1
            have x0 := h20.x.c0
            have x1 := h20.x.c1
            go_wp2_with fail
            go_fit (cmp_any (N := 36) _ vq20.zr (h20.x.zr.mono (by omega)) (by omega))
            rintro e W22 ⟨rfl, hb22⟩
            rw [unhide HD]
            have h22 := h20.keep hb22
            have vr22 := vr20.keep hb22
            have vs22 := vs20.keep hb22
            clear hb22 h20 vq20 vr20 vs20 q0 q1 x0 x1
            have r0 := vr22.c0
            have r1 := vr22.c1
            go_wp2_with fail
            go_fit (sign_any u18 _ _)
            rintro e W23 ⟨rfl, hb23⟩
            have h23 := h22.keep hb23
            have vr23 := vr22.keep hb23
            have vs23 := vs22.keep hb23
            clear hb23 h22 vr22 vs22 r0 r1
            have r0 := vr23.c0
            have r1 := vr23.c1
            have s0 := vs23.c0
            have s1 := vs23.c1
            go_wp2_with fail
            go_fit (cmp_any (N := 17) _ vr23.zr (vs23.zr.mono (by omega)) (by omega))
            rintro e W24 ⟨rfl, hb24⟩
            rw [show sgn (r - z6) = -1 by apply sgn_neg; have h1 := unhide HR1; have h2 := unhide HN; unfold iabs at h1; rw [if_neg (by omega)] at h1; omega]
            go_wp2
            go_ret
            exact ⟨rfl, below_keep hb24 h23.B⟩
      · go_wp2
        all_goals go_ret
        all_goals exact ⟨rfl, below_keep kz B7⟩
    · go_wp2
      all_goals go_ret
      all_goals exact ⟨rfl, below_keep kz B7⟩
  · go_wp2
    all_goals go_ret
    all_goals exact ⟨rfl, below_keep kz B7⟩
end Go.Proofs.YtmdmcmkfhmnbeaaDoor
