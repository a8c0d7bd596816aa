"""Things that are no texts, no whole numbers and no tuples, for the wrong inputs of the tests."""

NO_TEXTS = [None, True, False, 0, 1, -3, 2.5, b"", b"1 2 1 1", b"0", [], ["0"], ["1", "2", "1", "1"], ("0",),
            (), (1, 2, 1, 1), (0,), {}, {"0": 0}, {"0"}, set(), object(), str, len]

# Written numbers are to be met with none of these in their stead.
NO_NUMBERS = ["", "00", "01", "007", "000", "0000", "1000", "9999", "+1", "-1", "-0", "+0", " 1", "1 ", "1\n", "\n1",
              "1\r", "\t1", "1\t", "1\u00a0", "1\u2028", "1_0", "1.0", "1.", "1e1", "0x1", "a", "x", ",", "1,2",
              "\u0661", "\u00b2", "\uff11", "\u0967", "\u00bd", "\u2460", "1\u0661", "\u22121", "\x00", "1\x00"]
