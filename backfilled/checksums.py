"""Check numbers of the texts of lines, of many signs and of many lines at once.

The signs of a text, which are signs of ASCII here, are the pieces of one number, of 8 bits each. Then
neighbouring pieces become one of twice as many bits, all at once. As it stands, the first one of two
counts 2 to the power of the bits of the second one. It is to count 257 to the power of the signs of
the second one: so the difference of both powers, modulo the same number, is added for it. No piece
grows beyond its bits, since the signs are less than half of what 8 bits hold.
"""

# Lines that are looked at together: so many of them at most, of so many signs each at most.
BLOCK = 24
WIDTH = 64
# The bits of the signs of one of them.
LANE = (1 << 512) - 1
# The bits of the second ones of all two pieces, of 8, 16, .. bits each, in a block.
SECOND_OF_8 = ((1 << 12288) - 1) // ((1 << 8) + 1)
SECOND_OF_16 = ((1 << 12288) - 1) // ((1 << 16) + 1)
SECOND_OF_32 = ((1 << 12288) - 1) // ((1 << 32) + 1)
SECOND_OF_64 = ((1 << 12288) - 1) // ((1 << 64) + 1)
SECOND_OF_128 = ((1 << 12288) - 1) // ((1 << 128) + 1)
SECOND_OF_256 = ((1 << 12288) - 1) // ((1 << 256) + 1)
# 257 to the powers from 0 to WIDTH, modulo 9999991.
POWERS = (
    1, 257, 66049, 6974602, 2474325, 5902092, 6839003, 7625346, 9715677, 6931230, 1327712, 1222290, 4128809, 1104867,
    3951071, 5426156, 4523343, 2500195, 2550691, 5528172, 741482, 561045, 4188691, 6494550, 9100844, 8919005, 2186346,
    1891426, 6096914, 6908302, 5435207, 6849450, 310234, 9730201, 663907, 624252, 432908, 1257455, 3166223, 3720040,
    6051135, 5143090, 1775318, 6257131, 8084107, 7617362, 7663789, 9595537, 6055223, 6193706, 1783873, 8455766,
    3133815, 5391175, 5533217, 2038047, 3778547, 1087452, 9475407, 5181786, 1720199, 2091539, 7526000, 4183737,
    5221372,
)


def number_of(index, text):
    """The check number of the text of the line with an index."""
    if not text.isascii():
        return plain_number(index, text)
    number = index
    for start in range(0, len(text), WIDTH):
        signs = text[start:start + WIDTH].encode()
        number = int(number * POWERS[len(signs)] + joined(int.from_bytes(signs, "big"))) % 9999991
    return number


def plain_number(index, text):
    """The check number of the text of the line with an index, sign by sign."""
    number = index
    for sign in text:
        number = int(number * 257 + ord(sign)) % 9999991
    return number


def numbers_of(start, texts):
    """The check numbers of the texts, of signs of ASCII, of a block of lines, the first one with an index."""
    sizes = [len(text) for text in texts]
    if max(sizes) > WIDTH:
        return [number_of(index, text) for index, text in enumerate(texts, start)]
    # The first text stands last, so that it is the first one that can be taken off.
    signs = b"".join([text.encode().rjust(WIDTH, b"\x00") for text in texts[::-1]])
    number = joined(int.from_bytes(signs, "big"))
    found = []
    for index, size in enumerate(sizes, start):
        found.append(int((number & LANE) + index * POWERS[size]) % 9999991)
        number = number >> 512
    return found


def joined(number):
    """The number of the signs of a block, after those of each line have become one piece."""
    number = number + ((number >> 8) & SECOND_OF_8)
    number = number + ((number >> 16) & SECOND_OF_16) * 513
    number = number + ((number >> 32) & SECOND_OF_32) * 7503159
    number = number + ((number >> 64) & SECOND_OF_64) * 5555850
    number = number + ((number >> 128) & SECOND_OF_128) * 8279652
    return number + ((number >> 256) & SECOND_OF_256) * 307870
